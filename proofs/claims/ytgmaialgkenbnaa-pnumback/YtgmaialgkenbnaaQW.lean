/- Layer 3: awake, and the statements' walks. -/
import Derived.Test.YtgmaialgkenbnaaQB
import Derived.Test.YtgmaialgkenbnaaQE
namespace Go.Proofs.Ytgmaialgkenbnaa
open Go.RowKit
set_option linter.unusedVariables false
set_option maxRecDepth 100000

theorem widthF_bad {n a : Int} (h : a < -1 ∨ n ≤ a ∨ 4611686018427387903 < n) : widthF n a = (0, 1) := by unfold widthF; rw [if_pos h]

theorem width_any (n a : Int) (w : World) (q : Int × Int) (hq : q = widthF n a) :
    Calls Try.prog 10 #[.int .i64 n, .int .i64 a] w fun r w' => r = .returned (.tuple #[.int .i64 q.1, .int .i64 q.2]) ∧ w' = w := by
  by_cases hb : a < -1 ∨ n ≤ a ∨ 4611686018427387903 < n
  · rw [widthF_bad hb] at hq; subst hq; exact width_bad n a w hb
  · exact width_good n a w hb q hq

theorem refWidth_any (n a : Int) (w : World) (q : Int × Int) (hq : q = widthF n a) :
    Calls Try.prog 11 #[.int .i64 n, .int .i64 a] w fun r w' => r = .returned (.tuple #[.int .i64 q.1, .int .i64 q.2]) ∧ w' = w := by
  by_cases hb : a < -1 ∨ n ≤ a ∨ 4611686018427387903 < n
  · rw [widthF_bad hb] at hq; subst hq; exact refWidth_bad n a w hb
  · exact refWidth_good n a w hb q hq

theorem awake_any (w : World) :
    Calls Try.prog 9 #[] w fun r w' => r = .returned (.bool true) ∧ Below w.heap.size w w' := by
  have c1 := width_any 1100000 990000 w (3, 0) (by decide)
  have c2 := whole_good 70000 60 2 w (by decide) (by decide) (by decide) (by decide) 65596 (by decide)
  go_enter Try.func9, Try.ntmps9
  go_wp2_with (first | (go_at_call 10; refine c1.mono ?_; rintro e w' ⟨rfl, hw'⟩; subst w') | (go_at_call 15; refine c2.mono ?_; rintro e w' ⟨rfl, bel⟩))
  go_ret
  exact ⟨rfl, bel⟩

theorem widthF_code (n a : Int) : 0 ≤ (widthF n a).2 ∧ (widthF n a).2 < 4294967296 := by unfold widthF; (repeat' split) <;> decide

theorem widths_walk (n a : Int) (w : World) :
    Calls Try.prog 3 #[.int .i64 n, .int .i64 a] w fun e w' => e = .returned (.bool true) ∧ Below w.heap.size w w' := by
  obtain ⟨q1, q2, hq⟩ : ∃ q1 q2, (q1, q2) = widthF n a := ⟨_, _, rfl⟩
  have hc := widthF_code n a
  rw [← hq] at hc
  have c1 := fun W => width_any n a W (q1, q2) hq
  have c2 := fun W => refWidth_any n a W (q1, q2) hq
  clear hq
  simp only at hc c1 c2
  go_enter Try.func3, Try.ntmps3
  go_wp2_with (first | (go_at_call 9; refine (awake_any _).mono ?_; rintro e w1 ⟨rfl, bel⟩) | (go_at_call 10; refine (c1 _).mono ?_; rintro e w' ⟨rfl, hw'⟩; subst w') | (go_at_call 11; refine (c2 _).mono ?_; rintro e w' ⟨rfl, hw'⟩; subst w') | (go_at_call 12; refine (code_any _ _ hc).mono ?_; rintro e w' ⟨rfl, hw'⟩; subst w'))
  go_ret
  exact ⟨rfl, bel⟩

theorem cuts_walk (n wd : Int) (w : World) :
    Calls Try.prog 4 #[.int .i64 n, .int .i64 wd] w fun e w' => e = .returned (.bool true) ∧ Below w.heap.size w w' := by
  obtain ⟨q1, q2, hc, c1, c2⟩ : ∃ q1 q2 : Int, (0 ≤ q2 ∧ q2 < 4294967296)
      ∧ (∀ W, Calls Try.prog 13 #[.int .i64 n, .int .i64 wd] W fun r w' => r = .returned (.tuple #[.int .u32 q1, .int .i64 q2]) ∧ w' = W)
      ∧ (∀ W, Calls Try.prog 14 #[.int .i64 n, .int .i64 wd] W fun r w' => r = .returned (.tuple #[.int .u32 q1, .int .i64 q2]) ∧ w' = W) := by
    by_cases hb : n < 0 ∨ 4611686018427387903 < n ∨ wd < 1 ∨ 4 < wd
    · exact ⟨0, 1, by decide, fun W => cut_bad n wd W hb, fun W => refCut_bad n wd W hb⟩
    · exact ⟨_, 0, by decide, fun W => cut_good n wd W (by omega) (by omega) (by omega), fun W => refCut_good n wd W (by omega) (by omega) (by omega)⟩
  go_enter Try.func4, Try.ntmps4
  go_wp2_with (first | (go_at_call 9; refine (awake_any _).mono ?_; rintro e w1 ⟨rfl, bel⟩) | (go_at_call 13; refine (c1 _).mono ?_; rintro e w' ⟨rfl, hw'⟩; subst w') | (go_at_call 14; refine (c2 _).mono ?_; rintro e w' ⟨rfl, hw'⟩; subst w') | (go_at_call 12; refine (code_any _ _ hc).mono ?_; rintro e w' ⟨rfl, hw'⟩; subst w'))
  go_ret
  exact ⟨rfl, bel⟩

theorem wholes_walk (l low wd : Int) (w : World) (h0 : 0 ≤ low ∧ low < 4294967296) :
    Calls Try.prog 5 #[.int .i64 l, .int .u32 low, .int .i64 wd] w fun e w' => e = .returned (.bool true) ∧ Below w.heap.size w w' := by
  obtain ⟨q1, q2, hc, c1, c2⟩ : ∃ q1 q2 : Int, (0 ≤ q2 ∧ q2 < 4294967296)
      ∧ (∀ W, Calls Try.prog 15 #[.int .i64 l, .int .u32 low, .int .i64 wd] W fun r w' => r = .returned (.tuple #[.int .i64 q1, .int .i64 q2]) ∧ Below W.heap.size W w')
      ∧ (∀ W, Calls Try.prog 16 #[.int .i64 l, .int .u32 low, .int .i64 wd] W fun r w' => r = .returned (.tuple #[.int .i64 q1, .int .i64 q2]) ∧ w' = W) := by
    by_cases hb : WholeBad l low wd
    · exact ⟨0, 1, by decide, fun W => (whole_bad l low wd W h0 hb).mono fun r w' ⟨a, b⟩ => ⟨a, by rw [b]; exact Below.refl _ _⟩, fun W => refWhole_bad l low wd W h0 hb⟩
    · unfold WholeBad at hb
      exact ⟨_, 0, by decide, fun W => whole_good l low wd W (by omega) (by omega) (by omega) (by omega) _ rfl, fun W => refWhole_good l low wd W (by omega) (by omega) (by omega) (by omega) _ (ref_own l low wd (by omega) (by omega) (by omega) (by omega))⟩
  go_enter Try.func5, Try.ntmps5
  go_wp2_with (first | (go_at_call 9; refine (awake_any _).mono ?_; rintro e w1 ⟨rfl, bel⟩) | (go_at_call 15; refine (c1 _).mono ?_; rintro e w2 ⟨rfl, bel2⟩) | (go_at_call 16; refine (c2 _).mono ?_; rintro e w' ⟨rfl, hw'⟩; subst w') | (go_at_call 12; refine (code_any _ _ hc).mono ?_; rintro e w' ⟨rfl, hw'⟩; subst w'))
  go_ret
  exact ⟨rfl, bel.trans (bel2.mono bel.size)⟩
end Go.Proofs.Ytgmaialgkenbnaa
