/- The document's controller, at place 1 of two. -/
import Derived.Test.YtgmnlhbfhdgidaaGS
import Derived.Deep.DeepCutAuto
namespace Go.Proofs.Ytgmnlhbfhdgidaa
open Go.RowKit
set_option linter.unusedVariables false
set_option maxRecDepth 100000
set_option maxHeartbeats 4000000

theorem revent_7 (b : Nat) (s S : Cs) (now sent : Int) (w : World) (h : RB w b S s) (hi : inB s) :
    Calls Try.prog 32 #[ptrO b 7, .int .i64 now, .int .i64 sent] w fun e w' => e = .returned (.bool (!aheadB sent s)) ∧ RB w' b S (eventF now sent s) ∧ w.grownBy w' (some b) := by
  have hn := time_any now
  have hs := fun W q => time_any sent (World.drewN W q)
  obtain ⟨⟨m1, m2⟩, -, ⟨z1, z2⟩, ⟨r1, r2⟩⟩ := hi
  obtain ⟨t, -, c1, -, -, -, -, -⟩ := h.full7
  have h0 : RB ((w.setCell ⟨b, 8, none⟩ (.int .i64 (max s.clock (sp now)))).drew) b S (({ s with clock := max s.clock (sp now) })) := (Blk.setC h 8 _).drew
  have g0 : w.grownBy ((w.setCell ⟨b, 8, none⟩ (.int .i64 (max s.clock (sp now)))).drew) (some b) := drewS (grown_at (World.grownBy.refl w (some b)) 8 (.int .i64 (max s.clock (sp now))))
  have E1 : Hid (aheadB sent s = true → eventF now sent s = { s with clock := max s.clock (sp now) }) := fun hb => by unfold eventF; rw [if_pos (of_decide_eq_true hb)]; rfl
  have E2 : Hid (aheadB sent s = false → eventF now sent s = { s with clock := max s.clock (sp now), began := max s.clock (sp now), thr := s.size / 2, size := max (s.size / 2) (2 * s.mtu), rest := 0 }) := fun hb => by unfold eventF; rw [if_neg (of_decide_eq_false hb)]
  have A0 : Hid (aheadB sent s = decide (0 ≤ s.began ∧ sp sent ≤ s.began)) := rfl
  generalize hC0 : max s.clock (sp now) = C at *
  have F : Hid (∀ W, RB W b S (({ s with clock := C })) → w.grownBy W (some b) → RB ((((W.setCell ⟨b, 13, none⟩ (.int .i64 C)).setCell ⟨b, 11, none⟩ (.int .i64 (s.size / 2))).setCell ⟨b, 10, none⟩ (.int .i64 (max (s.size / 2) (2 * s.mtu)))).setCell ⟨b, 9, none⟩ (.int .i64 0)) b S (({ s with clock := C, began := C, thr := s.size / 2, size := max (s.size / 2) (2 * s.mtu), rest := 0 })) ∧ w.grownBy ((((W.setCell ⟨b, 13, none⟩ (.int .i64 C)).setCell ⟨b, 11, none⟩ (.int .i64 (s.size / 2))).setCell ⟨b, 10, none⟩ (.int .i64 (max (s.size / 2) (2 * s.mtu)))).setCell ⟨b, 9, none⟩ (.int .i64 0)) (some b)) := fun W hW gW =>
    ⟨(((Blk.setC hW 13 _).setC 11 _).setC 10 _).setC 9 _, grown_at (grown_at (grown_at (grown_at gW 13 _) 11 _) 10 _) 9 _⟩
  have H0 := hide h0
  have G0 := hide g0
  have HC : Hid (C = max s.clock (sp now)) := hC0.symm
  clear hC0
  clear h h0 g0
  generalize eventF now sent s = S1 at *
  generalize aheadB sent s = B1 at *
  generalize hN : sp now = N at *
  generalize hc : s.clock = c at *
  go_enter Try.func32, Try.ntmps32
  go_upto_region 1 with fail
  go_cut [] (fun wc => wc = (w.setCell ⟨b, 8, none⟩ (.int .i64 C)).drew)
  case first =>
    by_cases hlt : c < N
    · obtain rfl : C = N := (by have := unhide HC; omega)
      go_region_with (go_at_call 24; refine (hn _).mono ?_; rintro e W ⟨rfl, rfl⟩)
      all_goals go_wp2_with fail
      all_goals go_meet
      all_goals rfl
    · obtain rfl : C = c := (by have := unhide HC; omega)
      go_region_with (go_at_call 24; refine (hn _).mono ?_; rintro e W ⟨rfl, rfl⟩)
      all_goals go_wp2_with fail
      all_goals go_meet
      all_goals rfl
  case rest =>
    subst hcut
    generalize (w.setCell ⟨b, 8, none⟩ (.int .i64 C)).drew = W0 at *
    have hR := unhide H0
    have R1 := hide (fun q => (show RB (W0.drewN q) b S (({ s with clock := C })) from unhide H0))
    have G1 := hide (fun q => grown_drewS (unhide G0) q)
    have F1 := hide (fun q => unhide F (W0.drewN q) (unhide R1 q) (unhide G1 q))
    clear t c1 F H0 G0 HC
    obtain ⟨t, c0, c1, c2, c3, c4, c5, c6⟩ := hR.full7
    simp only at c0 c1 c2 c3 c4 c5 c6
    clear hR
    replace hs := hs W0
    generalize sp sent = T at *
    generalize s.began = bg at *
    by_cases h1 : 0 ≤ bg
    · by_cases h2 : T ≤ bg
      · have A1 : B1 = true := by rw [unhide A0]; exact decide_eq_true ⟨h1, h2⟩
        have E' := hide (unhide E1 A1)
        have B' : Hid ((!B1) = false) := by rw [A1]; exact rfl
        clear E1 E2 A0 A1 F1
        go_wp2_with fail
        go_quiet (exact Calls.quiet_of_same (hs _))
        go_wp2_with fail
        go_ret
        exact ⟨ret_beq' B', by rw [unhide E']; exact unhide R1 _, unhide G1 _⟩
      · have A1 : B1 = false := by rw [unhide A0]; exact decide_eq_false (fun h => h2 h.2)
        have E' := hide (unhide E2 A1)
        have B' : Hid ((!B1) = true) := by rw [A1]; exact rfl
        have hd : decide (T ≤ bg) = false := decide_eq_false h2
        clear E1 E2 A0 A1 G1 R1
        go_wp2_with fail
        go_quiet (exact Calls.quiet_of_same (hs _))
        have w1 : IntKind.i64.wrap (2 * s.mtu) = 2 * s.mtu := by rw [IntKind.wrap_i64]; omega
        have hM : max (s.size / 2) (2 * s.mtu) = if s.size / 2 < 2 * s.mtu then 2 * s.mtu else s.size / 2 := by split <;> omega
        rw [hM] at E' F1
        clear hM
        have k4 : ∀ q, (((W0.drewN q).setCell ⟨b, 13, none⟩ (.int .i64 C)).setCell ⟨b, 11, none⟩ (.int .i64 (s.size / 2))).cell? ⟨b, 11, none⟩ = some (.int .i64 (s.size / 2)) := fun q => World.cell?_setCell_same _ _ _ ((setCell_far (by decide)).trans c4)
        go_wp2_with fail
        go_region_held3 (fun X => X.cell? ⟨b, 7, none⟩ = some (.int .i64 s.mtu) ∧ X.cell? ⟨b, 11, none⟩ = some (.int .i64 (s.size / 2)) ∧ (∀ j, X.frozen? ⟨b, j, none⟩ = false)) (simp [*, setCell_far]) (fail)
        generalize (if s.size / 2 < 2 * s.mtu then 2 * s.mtu else s.size / 2) = M at *
        go_wp2_with fail
        go_ret
        exact ⟨ret_beq' B', by rw [unhide E']; exact Blk.drew (unhide F1 _).1, drewS (unhide F1 _).2⟩
    · have A1 : B1 = false := by rw [unhide A0]; exact decide_eq_false (fun h => h1 h.1)
      have E' := hide (unhide E2 A1)
      have B' : Hid ((!B1) = true) := by rw [A1]; exact rfl
      have hd : decide (0 ≤ bg) = false := decide_eq_false h1
      clear E1 E2 A0 A1 G1 R1
      go_wp2_with fail
      go_quiet (exact Calls.quiet_of_same (hs _))
      have w1 : IntKind.i64.wrap (2 * s.mtu) = 2 * s.mtu := by rw [IntKind.wrap_i64]; omega
      have hM : max (s.size / 2) (2 * s.mtu) = if s.size / 2 < 2 * s.mtu then 2 * s.mtu else s.size / 2 := by split <;> omega
      rw [hM] at E' F1
      clear hM
      have k4 : ∀ q, (((W0.drewN q).setCell ⟨b, 13, none⟩ (.int .i64 C)).setCell ⟨b, 11, none⟩ (.int .i64 (s.size / 2))).cell? ⟨b, 11, none⟩ = some (.int .i64 (s.size / 2)) := fun q => World.cell?_setCell_same _ _ _ ((setCell_far (by decide)).trans c4)
      go_wp2_with fail
      go_region_held3 (fun X => X.cell? ⟨b, 7, none⟩ = some (.int .i64 s.mtu) ∧ X.cell? ⟨b, 11, none⟩ = some (.int .i64 (s.size / 2)) ∧ (∀ j, X.frozen? ⟨b, j, none⟩ = false)) (simp [*, setCell_far]) (fail)
      generalize (if s.size / 2 < 2 * s.mtu then 2 * s.mtu else s.size / 2) = M at *
      go_wp2_with fail
      go_ret
      exact ⟨ret_beq' B', by rw [unhide E']; exact Blk.drew (unhide F1 _).1, drewS (unhide F1 _).2⟩
end Go.Proofs.Ytgmnlhbfhdgidaa
