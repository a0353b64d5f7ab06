/- The document's Sample. -/
import Derived.Test.YtmcodfkmdpbjiaaJE
import Derived.Deep.DeepCutAuto
namespace Go.Proofs.Ytmcodfkmdpbjiaa
open Go.RowKit
set_option linter.unusedVariables false
set_option maxRecDepth 100000
set_option maxHeartbeats 8000000

def rsmpF (now latest delay : Int) (s : Rs) : Rs :=
  if s.has then { init := s.init, gran := s.gran, clock := max s.clock (sp now), anew := false, has := true, latest := sp latest, least := leastF s.anew (sp latest) s.least, smooth := smoF s.smooth (adjF (leastF s.anew (sp latest) s.least) (sp latest) (sp delay)), var := varF s.var s.smooth (adjF (leastF s.anew (sp latest) s.least) (sp latest) (sp delay)), first := s.first }
  else { init := s.init, gran := s.gran, clock := max s.clock (sp now), anew := false, has := true, latest := sp latest, least := sp latest, smooth := sp latest, var := sp latest / 2, first := max s.clock (sp now) }

theorem rsample_no (b : Nat) (s : Rs) (now latest delay : Int) (w : World) (h : RB w b s) (ok : s.Ok) (hh : s.has = false) :
    Calls Try.prog 15 #[ptr b, .int .i64 now, .int .i64 latest, .int .i64 delay] w fun e w' => e = .returned (.tuple #[]) ∧ RB w' b (rsmpF now latest delay s) ∧ w.grownBy w' (some b) := by
  have hs1 := into_any latest
  have hs2 := into_any delay
  have hs3 := into_any now
  obtain ⟨l1, l2⟩ := sp_b latest
  obtain ⟨t, c0, c1, c2, c3, c4, c5, c6, c7, c8, c9⟩ := h.full
  have E : Hid (rsc (rsmpF now latest delay s) = #[.int .i64 s.init, .int .i64 s.gran, .int .i64 (max s.clock (sp now)), .bool false, .bool true, .int .i64 (sp latest), .int .i64 (sp latest), .int .i64 (sp latest), .int .i64 (sp latest / 2), .int .i64 (max s.clock (sp now))]) := by show _ = _; unfold rsmpF; rw [hh]; rfl
  rw [hh] at c4
  have h0 : RB ((w.setCell ⟨b, 2, none⟩ (.int .i64 (max s.clock (sp now)))).drew) b { s with clock := max s.clock (sp now) } := (Blk.setC h 2 (.int .i64 (max s.clock (sp now)))).drew
  have g0 : World.grownBy w ((w.setCell ⟨b, 2, none⟩ (.int .i64 (max s.clock (sp now)))).drew) (some b) := grown_drewS (grown_at (World.grownBy.refl w (some b)) 2 (.int .i64 (max s.clock (sp now)))) 1
  generalize hC : max s.clock (sp now) = C at *
  have F : Hid (∀ W, RB W b { s with clock := C } → World.grownBy w W (some b) → RB (((((((W.setCell ⟨b, 5, none⟩ (.int .i64 (sp latest))).setCell ⟨b, 4, none⟩ (.bool true)).setCell ⟨b, 6, none⟩ (.int .i64 (sp latest))).setCell ⟨b, 7, none⟩ (.int .i64 (sp latest))).setCell ⟨b, 8, none⟩ (.int .i64 (sp latest / 2))).setCell ⟨b, 9, none⟩ (.int .i64 C)).setCell ⟨b, 3, none⟩ (.bool false)) b (rsmpF now latest delay s) ∧ w.grownBy (((((((W.setCell ⟨b, 5, none⟩ (.int .i64 (sp latest))).setCell ⟨b, 4, none⟩ (.bool true)).setCell ⟨b, 6, none⟩ (.int .i64 (sp latest))).setCell ⟨b, 7, none⟩ (.int .i64 (sp latest))).setCell ⟨b, 8, none⟩ (.int .i64 (sp latest / 2))).setCell ⟨b, 9, none⟩ (.int .i64 C)).setCell ⟨b, 3, none⟩ (.bool false)) (some b)) := by
    intro W hW gW
    refine ⟨?_, grown_at (grown_at (grown_at (grown_at (grown_at (grown_at (grown_at gW 5 _) 4 _) 6 _) 7 _) 8 _) 9 _) 3 _⟩
    unfold RB
    rw [unhide E]
    exact ((((((Blk.setC hW 5 _).setC 4 _).setC 6 _).setC 7 _).setC 8 _).setC 9 _).setC 3 _
  have H0 := hide h0
  have G0 := hide g0
  clear h ok h0 g0 E
  generalize sp latest = L at *
  generalize sp now = N at *
  generalize hc : s.clock = c at *
  go_enter Try.func15, Try.ntmps15
  go_upto_region 0 with fail
  go_cut [] (fun wc => wc = (w.setCell ⟨b, 2, none⟩ (.int .i64 C)).drew)
  case first =>
    by_cases hlt : c < N
    · obtain rfl : C = N := by omega
      go_region_with (go_at_call 21; refine (hs3 _).mono ?_; rintro e W ⟨rfl, rfl⟩)
      all_goals go_wp2_with fail
      all_goals go_meet
      all_goals rfl
    · obtain rfl : C = c := by omega
      go_region_with (go_at_call 21; refine (hs3 _).mono ?_; rintro e W ⟨rfl, rfl⟩)
      all_goals go_wp2_with fail
      all_goals go_meet
      all_goals rfl
  case rest =>
    subst hcut
    have hR := unhide H0
    have F1 := hide (unhide F _ (unhide H0) (unhide G0))
    clear t c0 c1 c2 c3 c4 c5 c6 c7 c8 c9 F H0 G0
    generalize (w.setCell ⟨b, 2, none⟩ (.int .i64 C)).drew = W0 at *
    obtain ⟨t, c0, c1, c2, c3, c4, c5, c6, c7, c8, c9⟩ := hR.full
    simp only [hh] at c4
    clear hR
    go_wp2_with fail
    refine (hs1 _).mono ?_
    rintro e W ⟨rfl, rfl⟩
    go_wp2_with fail
    refine (hs2 _).mono ?_
    rintro e W ⟨rfl, rfl⟩
    go_wp2_with fail
    refine bodyPost_ret (results_none rfl _ _ _) rfl ?_
    exact ⟨rfl, (unhide F1).1, (unhide F1).2⟩
end Go.Proofs.Ytmcodfkmdpbjiaa
