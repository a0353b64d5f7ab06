/- The document's controller, at place 1 of two. -/
import Derived.Test.YtgmnlhbfhdgidaaGR
namespace Go.Proofs.Ytgmnlhbfhdgidaa
open Go.RowKit
set_option linter.unusedVariables false
set_option maxRecDepth 100000
set_option maxHeartbeats 4000000

theorem rsent_7 (b : Nat) (s S : Cs) (x : Int) (w : World) (h : RB w b S s) (hf : 0 ≤ s.flight ∧ s.flight ≤ 1000000000000) : Calls Try.prog 29 #[ptrO b 7, .int .i64 x] w fun e w' => e = .returned (.tuple #[]) ∧ RB w' b S (sentF x s) ∧ w.grownBy w' (some b) := by
  have hm := size_any x
  obtain ⟨z1, z2⟩ := szb x
  obtain ⟨f1, f2⟩ := hf
  obtain ⟨t, -, -, -, -, -, c5, -⟩ := h.full7
  have F := hide (And.intro (show RB ((w.setCell ⟨b, 12, none⟩ (.int .i64 (s.flight + szz x))).drew) b S (sentF x s) from (Blk.setC h 12 _).drew) (drewS (grown_at (World.grownBy.refl w (some b)) 12 (.int .i64 (s.flight + szz x)))))
  clear h
  generalize sentF x s = s' at *
  generalize szz x = T at *
  generalize s.flight = c at *
  have hw : IntKind.i64.wrap (c + T) = c + T := by rw [IntKind.wrap_i64]; omega
  go_enter Try.func29, Try.ntmps29
  go_wp2_with fail
  go_region_with (go_at_call 22; refine (hm _).mono ?_; rintro e W ⟨rfl, rfl⟩)
  all_goals go_wp2_with fail
  all_goals refine bodyPost_end (results_none rfl _ _ _) rfl ?_
  all_goals exact ⟨rfl, (unhide F).1, (unhide F).2⟩

theorem rgone_7 (b : Nat) (s S : Cs) (x : Int) (w : World) (h : RB w b S s) (hf : 0 ≤ s.flight ∧ s.flight ≤ 1000000000000) : Calls Try.prog 31 #[ptrO b 7, .int .i64 x] w fun e w' => e = .returned (.tuple #[]) ∧ RB w' b S (landF x s) ∧ w.grownBy w' (some b) := by
  have hm := size_any x
  obtain ⟨z1, z2⟩ := szb x
  obtain ⟨f1, f2⟩ := hf
  obtain ⟨t, -, -, -, -, -, c5, -⟩ := h.full7
  have k1 : RB ((w.setCell ⟨b, 12, none⟩ (.int .i64 (s.flight - szz x))).drew) b S (({ s with flight := s.flight - szz x })) := (Blk.setC h 12 _).drew
  have g1 : w.grownBy ((w.setCell ⟨b, 12, none⟩ (.int .i64 (s.flight - szz x))).drew) (some b) := drewS (grown_at (World.grownBy.refl w (some b)) 12 (.int .i64 (s.flight - szz x)))
  by_cases hlt : s.flight - szz x < 0
  · have F := hide (And.intro (show RB ((w.setCell ⟨b, 12, none⟩ (.int .i64 (s.flight - szz x))).drew.setCell ⟨b, 12, none⟩ (.int .i64 0)) b S (landF x s) from by unfold landF; rw [show max (s.flight - szz x) 0 = 0 by omega]; exact Blk.setC k1 12 _) (grown_at g1 12 (.int .i64 0)))
    clear h k1 g1
    generalize landF x s = s' at *
    generalize szz x = T at *
    generalize s.flight = c at *
    have hw : IntKind.i64.wrap (c - T) = c - T := by rw [IntKind.wrap_i64]; omega
    go_enter Try.func31, Try.ntmps31
    go_wp2_with fail
    go_region_with (go_at_call 22; refine (hm _).mono ?_; rintro e W ⟨rfl, rfl⟩)
    all_goals go_wp2_with fail
    all_goals refine bodyPost_end (results_none rfl _ _ _) rfl ?_
    all_goals exact ⟨rfl, (unhide F).1, (unhide F).2⟩
  · have F := hide (And.intro (show RB ((w.setCell ⟨b, 12, none⟩ (.int .i64 (s.flight - szz x))).drew) b S (landF x s) from by unfold landF; rw [show max (s.flight - szz x) 0 = s.flight - szz x by omega]; exact k1) g1)
    clear h k1 g1
    generalize landF x s = s' at *
    generalize szz x = T at *
    generalize s.flight = c at *
    have hw : IntKind.i64.wrap (c - T) = c - T := by rw [IntKind.wrap_i64]; omega
    go_enter Try.func31, Try.ntmps31
    go_wp2_with fail
    go_region_with (go_at_call 22; refine (hm _).mono ?_; rintro e W ⟨rfl, rfl⟩)
    all_goals go_wp2_with fail
    all_goals refine bodyPost_end (results_none rfl _ _ _) rfl ?_
    all_goals exact ⟨rfl, (unhide F).1, (unhide F).2⟩

theorem rcoll_7 (b : Nat) (s S : Cs) (w : World) (h : RB w b S s) (hm : 1200 ≤ s.mtu ∧ s.mtu ≤ 9000) : Calls Try.prog 33 #[ptrO b 7] w fun e w' => e = .returned (.tuple #[]) ∧ RB w' b S (collF s) ∧ w.grownBy w' (some b) := by
  obtain ⟨m1, m2⟩ := hm
  obtain ⟨t, c0, c1, c2, c3, c4, c5, c6⟩ := h.full7
  have F := hide (And.intro (show RB (((w.setCell ⟨b, 10, none⟩ (.int .i64 (2 * s.mtu))).setCell ⟨b, 13, none⟩ (.int .i64 (-1))).setCell ⟨b, 9, none⟩ (.int .i64 0)) b S (collF s) from ((Blk.setC h 10 _).setC 13 _).setC 9 _) (grown_at (grown_at (grown_at (World.grownBy.refl w (some b)) 10 (.int .i64 (2 * s.mtu))) 13 (.int .i64 (-1))) 9 (.int .i64 0)))
  clear h
  generalize collF s = s' at *
  generalize s.mtu = m at *
  have hw : IntKind.i64.wrap (2 * m) = 2 * m := by rw [IntKind.wrap_i64]; omega
  go_enter Try.func33, Try.ntmps33
  go_wp2_with fail
  refine bodyPost_end (results_none rfl _ _ _) rfl ?_
  exact ⟨rfl, (unhide F).1, (unhide F).2⟩

theorem rmay_7 (b : Nat) (s S : Cs) (x : Int) (w : World) (h : RB w b S s) (hf : 0 ≤ s.flight ∧ s.flight ≤ 1000000000000) : Calls Try.prog 18 #[ptrO b 7, .int .i64 x] w fun e w' => e = .returned (.bool (mayF x s)) ∧ w.grownBy w' none := by
  have hm := fun q => size_any x (w.drewN q)
  obtain ⟨z1, z2⟩ := szb x
  obtain ⟨f1, f2⟩ := hf
  obtain ⟨t, -, -, -, c3, -, c5, -⟩ := h.full7
  have G := hide (fun q => drewN_grown w q)
  unfold mayF
  clear h
  generalize szz x = T at *
  generalize s.flight = c at *
  generalize s.size = z at *
  by_cases h1 : c + T ≤ z
  · have E : Hid (decide (c + T ≤ z) = true) := decide_eq_true h1
    go_enter Try.func18, Try.ntmps18
    go_wp2_with fail
    go_quiet (exact Calls.quiet_of_same (hm _))
    go_wp2_with fail
    go_ret
    first | exact ⟨ret_beq' E, unhide G _⟩ | exact ⟨rfl, unhide G _⟩
  · have E : Hid (decide (c + T ≤ z) = false) := decide_eq_false h1
    go_enter Try.func18, Try.ntmps18
    go_wp2_with fail
    go_quiet (exact Calls.quiet_of_same (hm _))
    go_wp2_with fail
    go_ret
    first | exact ⟨ret_beq' E, unhide G _⟩ | exact ⟨rfl, unhide G _⟩
end Go.Proofs.Ytgmnlhbfhdgidaa
