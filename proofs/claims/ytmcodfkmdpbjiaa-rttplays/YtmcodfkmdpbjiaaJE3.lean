/- The document's Sample, behind the first one: rsample_anew. -/
import Derived.Test.YtmcodfkmdpbjiaaJE2
namespace Go.Proofs.Ytmcodfkmdpbjiaa
open Go.RowKit
set_option linter.unusedVariables false
set_option maxRecDepth 100000
set_option maxHeartbeats 8000000

theorem rsample_anew (b : Nat) (s : Rs) (now latest delay : Int) (w : World) (h : RB w b s) (ok : s.Ok) (hh : s.has = true) (ha : s.anew = true) :
    Calls Try.prog 15 #[ptr b, .int .i64 now, .int .i64 latest, .int .i64 delay] w fun e w' => e = .returned (.tuple #[]) ∧ RB w' b (rsmpF now latest delay s) ∧ w.grownBy w' (some b) := by
  have hs1 := into_any latest
  have hs2 := into_any delay
  have hs3 := into_any now
  obtain ⟨l1, l2⟩ := sp_b latest
  obtain ⟨d1, d2⟩ := sp_b delay
  obtain ⟨t, c0, c1, c2, c3, c4, c5, c6, c7, c8, c9⟩ := h.full
  have hm : leastF s.anew (sp latest) s.least = sp latest := by unfold leastF; rw [if_pos (.inl ha)]
  have E : Hid (rsc (rsmpF now latest delay s) = #[.int .i64 s.init, .int .i64 s.gran, .int .i64 (max s.clock (sp now)), .bool false, .bool s.has, .int .i64 (sp latest), .int .i64 (sp latest), .int .i64 (smoF s.smooth (adjF (sp latest) (sp latest) (sp delay))), .int .i64 (varF s.var s.smooth (adjF (sp latest) (sp latest) (sp delay))), .int .i64 s.first]) := by show _ = _; unfold rsmpF; rw [hh, hm]; rfl
  have h0 : RB ((w.setCell ⟨b, 2, none⟩ (.int .i64 (max s.clock (sp now)))).drew) b { s with clock := max s.clock (sp now) } := (Blk.setC h 2 (.int .i64 (max s.clock (sp now)))).drew
  have g0 : World.grownBy w ((w.setCell ⟨b, 2, none⟩ (.int .i64 (max s.clock (sp now)))).drew) (some b) := grown_drewS (grown_at (World.grownBy.refl w (some b)) 2 (.int .i64 (max s.clock (sp now)))) 1
  generalize hC : max s.clock (sp now) = C at *
  have F : Hid (∀ W, RB W b { s with clock := C } → World.grownBy w W (some b) → ∀ V S, V = varF s.var s.smooth (adjF (sp latest) (sp latest) (sp delay)) → S = smoF s.smooth (adjF (sp latest) (sp latest) (sp delay)) → RB ((((((W.setCell ⟨b, 5, none⟩ (.int .i64 (sp latest))).setCell ⟨b, 6, none⟩ (.int .i64 (sp latest))).setCell ⟨b, 6, none⟩ (.int .i64 (sp latest))).setCell ⟨b, 3, none⟩ (.bool false)).setCell ⟨b, 8, none⟩ (.int .i64 V)).setCell ⟨b, 7, none⟩ (.int .i64 S)) b (rsmpF now latest delay s) ∧ w.grownBy ((((((W.setCell ⟨b, 5, none⟩ (.int .i64 (sp latest))).setCell ⟨b, 6, none⟩ (.int .i64 (sp latest))).setCell ⟨b, 6, none⟩ (.int .i64 (sp latest))).setCell ⟨b, 3, none⟩ (.bool false)).setCell ⟨b, 8, none⟩ (.int .i64 V)).setCell ⟨b, 7, none⟩ (.int .i64 S)) (some b)) := by
    intro W hW gW V S eV eS
    refine ⟨?_, grown_at (grown_at (grown_at (grown_at (grown_at (grown_at gW 5 _) 6 _) 6 _) 3 _) 8 _) 7 _⟩
    unfold RB
    rw [unhide E, ← eV, ← eS]
    exact (((((Blk.setC hW 5 _).setC 6 _).setC 6 _).setC 3 _).setC 8 _).setC 7 _
  have H0 := hide h0
  have G0 := hide g0
  obtain ⟨m1, m2⟩ := ok.m
  obtain ⟨v1, v2⟩ := ok.v
  obtain ⟨s1, s2⟩ := ok.s
  have AV : Hid (∀ x, ((sp latest) + sp delay ≤ sp latest → sp latest - sp delay ≤ s.smooth → x = (3 * s.var + (s.smooth - (sp latest - sp delay))) / 4) → ((sp latest) + sp delay ≤ sp latest → s.smooth < sp latest - sp delay → x = (3 * s.var + (sp latest - sp delay - s.smooth)) / 4) → (sp latest < (sp latest) + sp delay → sp latest ≤ s.smooth → x = (3 * s.var + (s.smooth - sp latest)) / 4) → (sp latest < (sp latest) + sp delay → s.smooth < sp latest → x = (3 * s.var + (sp latest - s.smooth)) / 4) → x = varF s.var s.smooth (adjF (sp latest) (sp latest) (sp delay))) := by
    intro x h1 h2 h3 h4
    unfold varF adjF distF
    split <;> omega
  have AS : Hid (∀ x, ((sp latest) + sp delay ≤ sp latest → x = (7 * s.smooth + (sp latest - sp delay)) / 8) → (sp latest < (sp latest) + sp delay → x = (7 * s.smooth + sp latest) / 8) → x = smoF s.smooth (adjF (sp latest) (sp latest) (sp delay))) := by
    intro x h1 h2
    unfold smoF adjF
    split <;> omega
  clear h ok h0 g0 E hm
  generalize varF s.var s.smooth (adjF (sp latest) (sp latest) (sp delay)) = VV at *
  generalize smoF s.smooth (adjF (sp latest) (sp latest) (sp delay)) = SS at *
  generalize sp latest = L at *
  generalize sp delay = D at *
  generalize sp now = N at *
  generalize hc : s.clock = c at *
  go_enter Try.func15, Try.ntmps15
  go_upto_region 0 with fail
  go_cut [] (fun wc => wc = (w.setCell ⟨b, 2, none⟩ (.int .i64 C)).drew)
  case first =>
    clear F AV AS H0 G0
    by_cases hlt' : c < N
    · obtain rfl : C = N := by omega
      go_region_with (go_at_call 21; refine (hs3 _).mono ?_; rintro e W ⟨rfl, rfl⟩)
      all_goals go_wp2_with fail
      all_goals go_meet
      all_goals rfl
    · obtain rfl : C = c := by omega
      go_region_with (go_at_call 21; refine (hs3 _).mono ?_; rintro e W ⟨rfl, rfl⟩)
      all_goals go_wp2_with fail
      all_goals go_meet
      all_goals rfl
  case rest =>
    subst hcut
    have hR := unhide H0
    have F1 := hide (unhide F _ (unhide H0) (unhide G0))
    clear t c0 c1 c2 c3 c4 c5 c6 c7 c8 c9 F H0 G0
    generalize (w.setCell ⟨b, 2, none⟩ (.int .i64 C)).drew = W0 at *
    obtain ⟨t, c0, c1, c2, c3, c4, c5, c6, c7, c8, c9⟩ := hR.full
    simp only [hh] at c4
    simp only [ha] at c3
    have x6 := ((((Blk.setC hR 5 (.int .i64 L)).setC 6 (.int .i64 L)).setC 6 (.int .i64 L)).setC 3 (.bool false)).cell 6 (.int .i64 L) rfl
    clear hR hc hs3
    generalize s.least = m at *
    generalize s.smooth = sm at *
    generalize s.var = v at *
    go_wp2_with fail
    refine (hs1 _).mono ?_
    rintro e W ⟨rfl, rfl⟩
    go_wp2_with fail
    refine (hs2 _).mono ?_
    rintro e W ⟨rfl, rfl⟩
    clear hs1 hs2
    go_wp2_with fail
    all_goals refine bodyPost_end (results_none rfl _ _ _) rfl ?_
    all_goals exact ⟨rfl, unhide F1 _ _ (unhide AV _ (by omega) (by omega) (by omega) (by omega)) (unhide AS _ (by omega) (by omega))⟩
end Go.Proofs.Ytmcodfkmdpbjiaa
