/- Layer 3: Cut and Whole. -/
import Derived.Test.YtpcnpdippnljpaaKQA
namespace Go.Proofs.Ytpcnpdippnljpaa
open Go.RowKit
set_option maxRecDepth 100000
set_option linter.unusedVariables false

theorem cut_bad (n w : Int) (W : World) (hb : n < 0 ∨ 4611686018427387903 < n ∨ w < 1 ∨ 4 < w) :
    Calls Try.prog 44 #[.int .i64 n, .int .i64 w] W fun r w' => r = .returned (.tuple #[.int .u32 0, .int .i64 1]) ∧ w' = W := by
  by_cases h1 : 0 ≤ n ∧ n ≤ 4611686018427387903
  · have hd : decide (0 ≤ n ∧ n ≤ 4611686018427387903) = true := decide_eq_true h1
    have hw : decide (1 ≤ w ∧ w ≤ 4) = false := decide_eq_false (by omega)
    have c1 := isNumber_any n W
    have c2 := isWidth_any w W
    rw [hd] at c1
    rw [hw] at c2
    clear hd hw h1 hb
    go_enter Try.func44, Try.ntmps44
    go_wp2_with (first | (go_at_call 57; refine c1.mono ?_; rintro e w' ⟨rfl, hw'⟩; subst w') | (go_at_call 58; refine c2.mono ?_; rintro e w' ⟨rfl, hw'⟩; subst w'))
    go_ret2
    exact ⟨rfl, rfl⟩
  · have hd : decide (0 ≤ n ∧ n ≤ 4611686018427387903) = false := decide_eq_false h1
    have c1 := isNumber_any n W
    rw [hd] at c1
    clear hd h1 hb
    go_enter Try.func44, Try.ntmps44
    go_wp2_with (first | (go_at_call 57; refine c1.mono ?_; rintro e w' ⟨rfl, hw'⟩; subst w'))
    go_ret2
    exact ⟨rfl, rfl⟩

theorem cut_good (n w : Int) (W : World) (h1 : 0 ≤ n) (h2 : n ≤ 4611686018427387903) (hw : 1 ≤ w ∧ w ≤ 4) :
    Calls Try.prog 44 #[.int .i64 n, .int .i64 w] W fun r w' => r = .returned (.tuple #[.int .u32 (n % st w), .int .i64 0]) ∧ w' = W := by
  have c1 := isNumber_any n W
  have c2 := isWidth_any w W
  have c3 := stretch_any w W hw
  rw [show decide (0 ≤ n ∧ n ≤ 4611686018427387903) = true from decide_eq_true ⟨h1, h2⟩] at c1
  rw [show decide (1 ≤ w ∧ w ≤ 4) = true from decide_eq_true hw] at c2
  obtain rfl | rfl | rfl | rfl : w = 1 ∨ w = 2 ∨ w = 3 ∨ w = 4 := by omega
  all_goals first
    | rw [show st 1 = 256 from rfl] at *
    | rw [show st 2 = 65536 from rfl] at *
    | rw [show st 3 = 16777216 from rfl] at *
    | rw [show st 4 = 4294967296 from rfl] at *
  all_goals
    go_enter Try.func44, Try.ntmps44
    go_wp2_with (first | (go_at_call 57; refine c1.mono ?_; rintro e w' ⟨rfl, hw'⟩; subst w') | (go_at_call 58; refine c2.mono ?_; rintro e w' ⟨rfl, hw'⟩; subst w') | (go_at_call 59; refine c3.mono ?_; rintro e w' ⟨rfl, hw'⟩; subst w'))
    go_ret2
    exact ⟨rfl, rfl⟩

end Go.Proofs.Ytpcnpdippnljpaa
