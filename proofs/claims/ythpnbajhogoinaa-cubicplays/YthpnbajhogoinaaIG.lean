/- The program's functions: tick, land, Sent, Lost, Dropped. -/
import Derived.Test.YthpnbajhogoinaaIF
namespace Go.Proofs.Ythpnbajhogoinaa
open Go.RowKit Fl
set_option linter.unusedVariables false
set_option maxRecDepth 100000
set_option maxHeartbeats 2000000

theorem tick_any (b : Nat) (s : Cs) (x : Int) (w : World) (h : CB w b s) : Calls Try.prog 38 #[ptr b, .int .i64 x] w fun e w' => e = .returned (.tuple #[]) ∧ CB w' b (tickF x s) ∧ w.grownBy w' (some b) := by
  have hm := moment_any x
  obtain ⟨t, -, c1, -, -, -, -⟩ := h.full
  have F := hide (And.intro (show CB ((w.setCell ⟨b, 1, none⟩ (.int .i64 (max s.clock (sp x)))).drew) b (tickF x s) from (Blk.setC h 1 _).drew) (drewS (grown_at (World.grownBy.refl w (some b)) 1 (.int .i64 (max s.clock (sp x))))))
  clear h
  generalize tickF x s = s' at *
  generalize sp x = T at *
  generalize s.clock = c at *
  by_cases hlt : c < T
  · have E : max c T = T := by omega
    rw [E] at F
    go_enter Try.func38, Try.ntmps38
    go_wp2_with fail
    go_region_with (go_at_call 46; refine (hm _).mono ?_; rintro e W ⟨rfl, rfl⟩)
    all_goals go_wp2_with fail
    all_goals refine bodyPost_end (results_none rfl _ _ _) rfl ?_
    all_goals exact ⟨rfl, (unhide F).1, (unhide F).2⟩
  · have E : max c T = c := by omega
    rw [E] at F
    go_enter Try.func38, Try.ntmps38
    go_wp2_with fail
    go_region_with (go_at_call 46; refine (hm _).mono ?_; rintro e W ⟨rfl, rfl⟩)
    all_goals go_wp2_with fail
    all_goals refine bodyPost_end (results_none rfl _ _ _) rfl ?_
    all_goals exact ⟨rfl, (unhide F).1, (unhide F).2⟩

theorem land_any (b : Nat) (s : Cs) (x : Int) (w : World) (h : CB w b s) (hf : 0 ≤ s.flight ∧ s.flight ≤ 1000000000000) : Calls Try.prog 42 #[ptr b, .int .i64 x] w fun e w' => e = .returned (.tuple #[]) ∧ CB w' b (landF x s) ∧ w.grownBy w' (some b) := by
  have hm := amount_any x
  obtain ⟨z1, z2⟩ := szb x
  obtain ⟨f1, f2⟩ := hf
  obtain ⟨t, -, -, -, -, c4, -⟩ := h.full
  have F := hide (And.intro (show CB ((w.setCell ⟨b, 4, none⟩ (.int .i64 (max (s.flight - szz x) 0))).drew) b (landF x s) from (Blk.setC h 4 _).drew) (drewS (grown_at (World.grownBy.refl w (some b)) 4 (.int .i64 (max (s.flight - szz x) 0)))))
  clear h
  generalize landF x s = s' at *
  generalize szz x = T at *
  generalize s.flight = c at *
  have hw : IntKind.i64.wrap (c - T) = c - T := by rw [IntKind.wrap_i64]; omega
  by_cases hlt : c - T < 0
  · have E : max (c - T) 0 = 0 := by omega
    rw [E] at F
    go_enter Try.func42, Try.ntmps42
    go_wp2_with fail
    go_region_with (go_at_call 37; refine (hm _).mono ?_; rintro e W ⟨rfl, rfl⟩)
    all_goals go_wp2_with fail
    all_goals refine bodyPost_end (results_none rfl _ _ _) rfl ?_
    all_goals exact ⟨rfl, (unhide F).1, (unhide F).2⟩
  · have E : max (c - T) 0 = c - T := by omega
    rw [E] at F
    go_enter Try.func42, Try.ntmps42
    go_wp2_with fail
    go_region_with (go_at_call 37; refine (hm _).mono ?_; rintro e W ⟨rfl, rfl⟩)
    all_goals go_wp2_with fail
    all_goals refine bodyPost_end (results_none rfl _ _ _) rfl ?_
    all_goals exact ⟨rfl, (unhide F).1, (unhide F).2⟩

theorem sent_any (b : Nat) (s : Cs) (x : Int) (w : World) (h : CB w b s) (hf : 0 ≤ s.flight ∧ s.flight ≤ 1000000000000) : Calls Try.prog 26 #[ptr b, .int .i64 x] w fun e w' => e = .returned (.tuple #[]) ∧ CB w' b (sentF x s) ∧ w.grownBy w' (some b) := by
  have hm := amount_any x
  obtain ⟨z1, z2⟩ := szb x
  obtain ⟨f1, f2⟩ := hf
  obtain ⟨t, -, -, -, -, c4, -⟩ := h.full
  have F := hide (And.intro (show CB ((w.setCell ⟨b, 4, none⟩ (.int .i64 (s.flight + szz x))).drew) b (sentF x s) from (Blk.setC h 4 _).drew) (drewS (grown_at (World.grownBy.refl w (some b)) 4 (.int .i64 (s.flight + szz x)))))
  clear h
  generalize sentF x s = s' at *
  generalize szz x = T at *
  generalize s.flight = c at *
  have hw : IntKind.i64.wrap (c + T) = c + T := by rw [IntKind.wrap_i64]; omega
  go_enter Try.func26, Try.ntmps26
  go_wp2_with fail
  go_region_with (go_at_call 37; refine (hm _).mono ?_; rintro e W ⟨rfl, rfl⟩)
  all_goals go_wp2_with fail
  all_goals refine bodyPost_end (results_none rfl _ _ _) rfl ?_
  all_goals exact ⟨rfl, (unhide F).1, (unhide F).2⟩

theorem lost_any (b : Nat) (s : Cs) (x : Int) (w : World) (h : CB w b s) (hf : 0 ≤ s.flight ∧ s.flight ≤ 1000000000000) : Calls Try.prog 30 #[ptr b, .int .i64 x] w fun e w' => e = .returned (.tuple #[]) ∧ CB w' b (landF x s) ∧ w.grownBy w' (some b) := by
  have hl := land_any b s x w h hf
  clear h
  go_enter Try.func30, Try.ntmps30
  go_wp2_with fail
  refine hl.mono ?_
  rintro e W ⟨rfl, h1, g1⟩
  go_wp2_with fail
  refine bodyPost_end (results_none rfl _ _ _) rfl ?_
  exact ⟨rfl, h1, g1⟩
theorem dropped_any (b : Nat) (s : Cs) (x : Int) (w : World) (h : CB w b s) (hf : 0 ≤ s.flight ∧ s.flight ≤ 1000000000000) : Calls Try.prog 31 #[ptr b, .int .i64 x] w fun e w' => e = .returned (.tuple #[]) ∧ CB w' b (landF x s) ∧ w.grownBy w' (some b) := by
  have hl := land_any b s x w h hf
  clear h
  go_enter Try.func31, Try.ntmps31
  go_wp2_with fail
  refine hl.mono ?_
  rintro e W ⟨rfl, h1, g1⟩
  go_wp2_with fail
  refine bodyPost_end (results_none rfl _ _ _) rfl ?_
  exact ⟨rfl, h1, g1⟩

end Go.Proofs.Ythpnbajhogoinaa
