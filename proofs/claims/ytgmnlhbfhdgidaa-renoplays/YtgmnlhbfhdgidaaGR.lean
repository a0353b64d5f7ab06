/- The document's controller, at place 0 of two. -/
import Derived.Test.YtgmnlhbfhdgidaaGC2
namespace Go.Proofs.Ytgmnlhbfhdgidaa
open Go.RowKit
set_option linter.unusedVariables false
set_option maxRecDepth 100000
set_option maxHeartbeats 4000000

/-- Two of the document's controllers, side by side in memory. -/
def RB (w : World) (g : Nat) (R S : Cs) : Prop := Blk w g (rcc R ++ rcc S) 37
abbrev ptrO (g o : Nat) : Value := .pointer (some ⟨g, o, none⟩)
theorem RB.full0 {w : World} {b : Nat} {s S : Cs} (h : RB w b s S) : (∀ j, w.frozen? ⟨b, j, none⟩ = false) ∧ w.cell? ⟨b, 0, none⟩ = some (.int .i64 s.mtu) ∧ w.cell? ⟨b, 1, none⟩ = some (.int .i64 s.clock) ∧ w.cell? ⟨b, 2, none⟩ = some (.int .i64 s.rest) ∧ w.cell? ⟨b, 3, none⟩ = some (.int .i64 s.size) ∧ w.cell? ⟨b, 4, none⟩ = some (.int .i64 s.thr) ∧ w.cell? ⟨b, 5, none⟩ = some (.int .i64 s.flight) ∧ w.cell? ⟨b, 6, none⟩ = some (.int .i64 s.began) :=
  ⟨fun j => h.thaw j, h.cell 0 _ rfl, h.cell 1 _ rfl, h.cell 2 _ rfl, h.cell 3 _ rfl, h.cell 4 _ rfl, h.cell 5 _ rfl, h.cell 6 _ rfl⟩
theorem RB.full7 {w : World} {b : Nat} {s S : Cs} (h : RB w b S s) : (∀ j, w.frozen? ⟨b, j, none⟩ = false) ∧ w.cell? ⟨b, 7, none⟩ = some (.int .i64 s.mtu) ∧ w.cell? ⟨b, 8, none⟩ = some (.int .i64 s.clock) ∧ w.cell? ⟨b, 9, none⟩ = some (.int .i64 s.rest) ∧ w.cell? ⟨b, 10, none⟩ = some (.int .i64 s.size) ∧ w.cell? ⟨b, 11, none⟩ = some (.int .i64 s.thr) ∧ w.cell? ⟨b, 12, none⟩ = some (.int .i64 s.flight) ∧ w.cell? ⟨b, 13, none⟩ = some (.int .i64 s.began) :=
  ⟨fun j => h.thaw j, h.cell 7 _ rfl, h.cell 8 _ rfl, h.cell 9 _ rfl, h.cell 10 _ rfl, h.cell 11 _ rfl, h.cell 12 _ rfl, h.cell 13 _ rfl⟩
theorem RB.grown {w W : World} {b : Nat} {s S : Cs} (h : RB w b s S) (g : w.grownBy W none) : RB W b s S := Blk.grown h g

theorem rsent_0 (b : Nat) (s S : Cs) (x : Int) (w : World) (h : RB w b s S) (hf : 0 ≤ s.flight ∧ s.flight ≤ 1000000000000) : Calls Try.prog 29 #[ptrO b 0, .int .i64 x] w fun e w' => e = .returned (.tuple #[]) ∧ RB w' b (sentF x s) S ∧ w.grownBy w' (some b) := by
  have hm := size_any x
  obtain ⟨z1, z2⟩ := szb x
  obtain ⟨f1, f2⟩ := hf
  obtain ⟨t, -, -, -, -, -, c5, -⟩ := h.full0
  have F := hide (And.intro (show RB ((w.setCell ⟨b, 5, none⟩ (.int .i64 (s.flight + szz x))).drew) b (sentF x s) S from (Blk.setC h 5 _).drew) (drewS (grown_at (World.grownBy.refl w (some b)) 5 (.int .i64 (s.flight + szz x)))))
  clear h
  generalize sentF x s = s' at *
  generalize szz x = T at *
  generalize s.flight = c at *
  have hw : IntKind.i64.wrap (c + T) = c + T := by rw [IntKind.wrap_i64]; omega
  go_enter Try.func29, Try.ntmps29
  go_wp2_with fail
  go_region_with (go_at_call 22; refine (hm _).mono ?_; rintro e W ⟨rfl, rfl⟩)
  all_goals go_wp2_with fail
  all_goals refine bodyPost_end (results_none rfl _ _ _) rfl ?_
  all_goals exact ⟨rfl, (unhide F).1, (unhide F).2⟩

theorem rgone_0 (b : Nat) (s S : Cs) (x : Int) (w : World) (h : RB w b s S) (hf : 0 ≤ s.flight ∧ s.flight ≤ 1000000000000) : Calls Try.prog 31 #[ptrO b 0, .int .i64 x] w fun e w' => e = .returned (.tuple #[]) ∧ RB w' b (landF x s) S ∧ w.grownBy w' (some b) := by
  have hm := size_any x
  obtain ⟨z1, z2⟩ := szb x
  obtain ⟨f1, f2⟩ := hf
  obtain ⟨t, -, -, -, -, -, c5, -⟩ := h.full0
  have k1 : RB ((w.setCell ⟨b, 5, none⟩ (.int .i64 (s.flight - szz x))).drew) b (({ s with flight := s.flight - szz x })) S := (Blk.setC h 5 _).drew
  have g1 : w.grownBy ((w.setCell ⟨b, 5, none⟩ (.int .i64 (s.flight - szz x))).drew) (some b) := drewS (grown_at (World.grownBy.refl w (some b)) 5 (.int .i64 (s.flight - szz x)))
  by_cases hlt : s.flight - szz x < 0
  · have F := hide (And.intro (show RB ((w.setCell ⟨b, 5, none⟩ (.int .i64 (s.flight - szz x))).drew.setCell ⟨b, 5, none⟩ (.int .i64 0)) b (landF x s) S from by unfold landF; rw [show max (s.flight - szz x) 0 = 0 by omega]; exact Blk.setC k1 5 _) (grown_at g1 5 (.int .i64 0)))
    clear h k1 g1
    generalize landF x s = s' at *
    generalize szz x = T at *
    generalize s.flight = c at *
    have hw : IntKind.i64.wrap (c - T) = c - T := by rw [IntKind.wrap_i64]; omega
    go_enter Try.func31, Try.ntmps31
    go_wp2_with fail
    go_region_with (go_at_call 22; refine (hm _).mono ?_; rintro e W ⟨rfl, rfl⟩)
    all_goals go_wp2_with fail
    all_goals refine bodyPost_end (results_none rfl _ _ _) rfl ?_
    all_goals exact ⟨rfl, (unhide F).1, (unhide F).2⟩
  · have F := hide (And.intro (show RB ((w.setCell ⟨b, 5, none⟩ (.int .i64 (s.flight - szz x))).drew) b (landF x s) S from by unfold landF; rw [show max (s.flight - szz x) 0 = s.flight - szz x by omega]; exact k1) g1)
    clear h k1 g1
    generalize landF x s = s' at *
    generalize szz x = T at *
    generalize s.flight = c at *
    have hw : IntKind.i64.wrap (c - T) = c - T := by rw [IntKind.wrap_i64]; omega
    go_enter Try.func31, Try.ntmps31
    go_wp2_with fail
    go_region_with (go_at_call 22; refine (hm _).mono ?_; rintro e W ⟨rfl, rfl⟩)
    all_goals go_wp2_with fail
    all_goals refine bodyPost_end (results_none rfl _ _ _) rfl ?_
    all_goals exact ⟨rfl, (unhide F).1, (unhide F).2⟩

theorem rcoll_0 (b : Nat) (s S : Cs) (w : World) (h : RB w b s S) (hm : 1200 ≤ s.mtu ∧ s.mtu ≤ 9000) : Calls Try.prog 33 #[ptrO b 0] w fun e w' => e = .returned (.tuple #[]) ∧ RB w' b (collF s) S ∧ w.grownBy w' (some b) := by
  obtain ⟨m1, m2⟩ := hm
  obtain ⟨t, c0, c1, c2, c3, c4, c5, c6⟩ := h.full0
  have F := hide (And.intro (show RB (((w.setCell ⟨b, 3, none⟩ (.int .i64 (2 * s.mtu))).setCell ⟨b, 6, none⟩ (.int .i64 (-1))).setCell ⟨b, 2, none⟩ (.int .i64 0)) b (collF s) S from ((Blk.setC h 3 _).setC 6 _).setC 2 _) (grown_at (grown_at (grown_at (World.grownBy.refl w (some b)) 3 (.int .i64 (2 * s.mtu))) 6 (.int .i64 (-1))) 2 (.int .i64 0)))
  clear h
  generalize collF s = s' at *
  generalize s.mtu = m at *
  have hw : IntKind.i64.wrap (2 * m) = 2 * m := by rw [IntKind.wrap_i64]; omega
  go_enter Try.func33, Try.ntmps33
  go_wp2_with fail
  refine bodyPost_end (results_none rfl _ _ _) rfl ?_
  exact ⟨rfl, (unhide F).1, (unhide F).2⟩

theorem rmay_0 (b : Nat) (s S : Cs) (x : Int) (w : World) (h : RB w b s S) (hf : 0 ≤ s.flight ∧ s.flight ≤ 1000000000000) : Calls Try.prog 18 #[ptrO b 0, .int .i64 x] w fun e w' => e = .returned (.bool (mayF x s)) ∧ w.grownBy w' none := by
  have hm := fun q => size_any x (w.drewN q)
  obtain ⟨z1, z2⟩ := szb x
  obtain ⟨f1, f2⟩ := hf
  obtain ⟨t, -, -, -, c3, -, c5, -⟩ := h.full0
  have G := hide (fun q => drewN_grown w q)
  unfold mayF
  clear h
  generalize szz x = T at *
  generalize s.flight = c at *
  generalize s.size = z at *
  by_cases h1 : c + T ≤ z
  · have E : Hid (decide (c + T ≤ z) = true) := decide_eq_true h1
    go_enter Try.func18, Try.ntmps18
    go_wp2_with fail
    go_quiet (exact Calls.quiet_of_same (hm _))
    go_wp2_with fail
    go_ret
    first | exact ⟨ret_beq' E, unhide G _⟩ | exact ⟨rfl, unhide G _⟩
  · have E : Hid (decide (c + T ≤ z) = false) := decide_eq_false h1
    go_enter Try.func18, Try.ntmps18
    go_wp2_with fail
    go_quiet (exact Calls.quiet_of_same (hm _))
    go_wp2_with fail
    go_ret
    first | exact ⟨ret_beq' E, unhide G _⟩ | exact ⟨rfl, unhide G _⟩
end Go.Proofs.Ytgmnlhbfhdgidaa
