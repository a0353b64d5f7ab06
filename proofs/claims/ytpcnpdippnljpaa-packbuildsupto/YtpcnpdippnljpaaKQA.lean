/- Layer 3: numbers cut short: the little functions. -/
import Derived.WalkKit
import Derived.Below
import Derived.Test.YtpcnpdippnljpaaKD
namespace Go.Proofs.Ytpcnpdippnljpaa
open Go.RowKit
set_option maxRecDepth 100000
set_option linter.unusedVariables false

theorem ret_bool {a b : Bool} (h : a = b) : Ending.returned (.bool a) = .returned (.bool b) := by rw [h]

/-- 2^(8 width). -/
def st (w : Int) : Int := if w = 1 then 256 else if w = 2 then 65536 else if w = 3 then 16777216 else 4294967296

/-- Cut. -/
def cutF (n w : Int) : Int × Int :=
  if n < 0 ∨ 4611686018427387903 < n ∨ w < 1 ∨ 4 < w then (0, 1) else (n % st w, 0)

theorem isNumber_any (n : Int) (w : World) :
    Calls Try.prog 57 #[.int .i64 n] w fun r w' => r = .returned (.bool (decide (0 ≤ n ∧ n ≤ 4611686018427387903))) ∧ w' = w := by
  go_enter Try.func57, Try.ntmps57
  go_wp2
  all_goals go_ret
  all_goals exact ⟨ret_bool (by simp; try omega), rfl⟩

theorem isWidth_any (n : Int) (w : World) :
    Calls Try.prog 58 #[.int .i64 n] w fun r w' => r = .returned (.bool (decide (1 ≤ n ∧ n ≤ 4))) ∧ w' = w := by
  go_enter Try.func58, Try.ntmps58
  go_wp2
  all_goals go_ret
  all_goals exact ⟨ret_bool (by simp; try omega), rfl⟩

theorem stretch_any (n : Int) (w : World) (h1 : 1 ≤ n ∧ n ≤ 4) :
    Calls Try.prog 59 #[.int .i64 n] w fun r w' => r = .returned (.int .i64 (st n)) ∧ w' = w := by
  obtain rfl | rfl | rfl | rfl : n = 1 ∨ n = 2 ∨ n = 3 ∨ n = 4 := by omega
  all_goals
    go_enter Try.func59, Try.ntmps59
    go_wp2
    go_ret
    exact ⟨ret_int (by rfl), rfl⟩

end Go.Proofs.Ytpcnpdippnljpaa
