/- fits: the three counts. -/
import Derived.Test.YtggjeamondampaaFO
namespace Go.Proofs.Ytggjeamondampaa
open Go.RowKit
set_option linter.unusedVariables false
set_option maxRecDepth 100000
set_option maxHeartbeats 2000000

theorem fits_counts (f : Fr) (d r : Value) (w : World) : Calls Try.prog 87 #[f.val d r, .int .i64 10] w fun e w' => e = .returned (.bool (fitsW f 10)) ∧ w.grownBy w' none := by
  have g0 := World.grownBy_alloc w (.cells (f.cs d r) 26) none
  have i0 : ∀ w : World, (Instr.index 24 (.agg #[.int .i64 f.c0, .int .i64 f.c1, .int .i64 f.c2]) (.int .i64 0)).run Try.prog w = .ok (.int .i64 f.c0) w := fun _ => by kernel_rfl
  have i1 : ∀ w : World, (Instr.index 24 (.agg #[.int .i64 f.c0, .int .i64 f.c1, .int .i64 f.c2]) (.int .i64 1)).run Try.prog w = .ok (.int .i64 f.c1) w := fun _ => by kernel_rfl
  have i2 : ∀ w : World, (Instr.index 24 (.agg #[.int .i64 f.c0, .int .i64 f.c1, .int .i64 f.c2]) (.int .i64 2)).run Try.prog w = .ok (.int .i64 f.c2) w := fun _ => by kernel_rfl
  go_enter Try.func87, Try.ntmps87
  go_wp2
  go_loopw [30] (fun i wr => ∃ k : Nat, k ≤ 3 ∧ i = .int .i64 k ∧ (0 < k → numb f.c0 MAXN = true) ∧ (1 < k → numb f.c1 MAXN = true) ∧ (2 < k → numb f.c2 MAXN = true) ∧ w.grownBy wr none) (fun i _ => 3 - (intOf i).toNat)
  case atStart => exact ⟨0, by omega, rfl, fun h => absurd h (by omega), fun h => absurd h (by omega), fun h => absurd h (by omega), g0⟩
  case round =>
    obtain ⟨k, hk, rfl, p0, p1, p2, gw⟩ := hrel
    by_cases hlt : k < 3
    · rcases (by omega : k = 0 ∨ k = 1 ∨ k = 2) with rfl | rfl | rfl
      · have hnu := fun W => isNumber_any f.c0 MAXN W
        cases hb : numb f.c0 MAXN with
        | true =>
          rw [hb] at hnu
          have HB := hide hb
          clear hb
          go_wp2_with (first | (go_at_call 96; refine (hnu _).mono ?_; rintro e W1 ⟨rfl, hw1⟩; subst hw1))
          exact ⟨⟨1, by omega, rfl, fun _ => (by first | exact unhide HB | trivial), fun h => absurd h (by omega), fun h => absurd h (by omega), gw⟩, by simp [intOf]⟩
        | false =>
          rw [hb] at hnu
          have E : Hid (fitsW f 10 = false) := by
            have e1 : fitsW f 10 = (numb f.c0 MAXN && numb f.c1 MAXN && numb f.c2 MAXN) := rfl
            show fitsW f 10 = false
            rw [e1, hb]; simp
          clear hb
          go_wp2_with (first | (go_at_call 96; refine (hnu _).mono ?_; rintro e W1 ⟨rfl, hw1⟩; subst hw1))
          go_ret
          exact ⟨by rw [unhide E]; rfl, gw⟩
      · have hnu := fun W => isNumber_any f.c1 MAXN W
        cases hb : numb f.c1 MAXN with
        | true =>
          rw [hb] at hnu
          have HB := hide hb
          clear hb
          go_wp2_with (first | (go_at_call 96; refine (hnu _).mono ?_; rintro e W1 ⟨rfl, hw1⟩; subst hw1))
          exact ⟨⟨2, by omega, rfl, fun _ => p0 (by omega), fun _ => (by first | exact unhide HB | trivial), fun h => absurd h (by omega), gw⟩, by simp [intOf]⟩
        | false =>
          rw [hb] at hnu
          have E : Hid (fitsW f 10 = false) := by
            have e1 : fitsW f 10 = (numb f.c0 MAXN && numb f.c1 MAXN && numb f.c2 MAXN) := rfl
            show fitsW f 10 = false
            rw [e1, hb]; simp
          clear hb
          go_wp2_with (first | (go_at_call 96; refine (hnu _).mono ?_; rintro e W1 ⟨rfl, hw1⟩; subst hw1))
          go_ret
          exact ⟨by rw [unhide E]; rfl, gw⟩
      · have hnu := fun W => isNumber_any f.c2 MAXN W
        cases hb : numb f.c2 MAXN with
        | true =>
          rw [hb] at hnu
          have HB := hide hb
          clear hb
          go_wp2_with (first | (go_at_call 96; refine (hnu _).mono ?_; rintro e W1 ⟨rfl, hw1⟩; subst hw1))
          exact ⟨⟨3, by omega, rfl, fun _ => p0 (by omega), fun _ => p1 (by omega), fun _ => (by first | exact unhide HB | trivial), gw⟩, by simp [intOf]⟩
        | false =>
          rw [hb] at hnu
          have E : Hid (fitsW f 10 = false) := by
            have e1 : fitsW f 10 = (numb f.c0 MAXN && numb f.c1 MAXN && numb f.c2 MAXN) := rfl
            show fitsW f 10 = false
            rw [e1, hb]; simp
          clear hb
          go_wp2_with (first | (go_at_call 96; refine (hnu _).mono ?_; rintro e W1 ⟨rfl, hw1⟩; subst hw1))
          go_ret
          exact ⟨by rw [unhide E]; rfl, gw⟩
    · obtain rfl : k = 3 := by omega
      have E : Hid (fitsW f 10 = true) := by
        have e1 : fitsW f 10 = (numb f.c0 MAXN && numb f.c1 MAXN && numb f.c2 MAXN) := rfl
        show fitsW f 10 = true
        rw [e1, p0 (by omega), p1 (by omega), p2 (by omega)]; rfl
      go_wp2
      go_ret
      exact ⟨by rw [unhide E]; rfl, gw⟩

end Go.Proofs.Ytggjeamondampaa
