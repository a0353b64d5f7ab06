/- math/bits: Mul64, Add64. -/
import Derived.Test.YtlfldbagbafjfaaHA
import Derived.Laws.MathBits
import Derived.Laws.Externs
import Derived.Deep.RegionHeld3
import Derived.Deep.RegionHeldLaw
import Derived.BigRegion
import Derived.BigQuiet
import Derived.WalkKit
namespace Go.Proofs.Ytlfldbagbafjfaa
open Go.RowKit
set_option linter.unusedVariables false
set_option maxRecDepth 100000
set_option maxHeartbeats 1000000

abbrev u64B (x : Int) : Prop := 0 ≤ x ∧ x < 18446744073709551616

theorem mul64_any (x y : Int) (hx : u64B x) (hy : u64B y) (w : World) :
    Calls Try.prog 29 #[.int .u64 x, .int .u64 y] w fun e w' => e = .returned (.tuple #[.int .u64 (x * y / 18446744073709551616), .int .u64 (x * y % 18446744073709551616)]) ∧ w' = w := by
  go_enter Try.func29, Try.ntmps29
  go_wp2_with fail
  go_ret2
  refine ⟨?_, rfl⟩
  rw [and_low32 x hx.1 hx.2, and_low32 y hy.1 hy.2]
  simp only [IntKind.wrap_u64]
  rw [and_low32 _ (Int.emod_nonneg _ (by decide)) (Int.emod_lt_of_pos _ (by decide)), mul64_arith x y hx.1 hx.2 hy.1 hy.2]
  rfl

theorem add64_run (x y : Int) (hx : 0 ≤ x) (hy : 0 ≤ y) (w : World) :
    (callFunc 30 #[.int .u64 x, .int .u64 y, .int .u64 0]).run Try.prog w = .ok (.value (.tuple #[.int .u64 ((x + y) % 18446744073709551616), .int .u64 ((x + y) / 18446744073709551616)])) w := by
  rw [run_callFunc_extern Try.func30 (by kernel_rfl) (by kernel_rfl) (by kernel_rfl) (e := add64Entry) (by kernel_rfl), run_add64 x y 0 hx hy (by omega) (by omega)]
  simp only [Result.andThen, Int.add_zero]
end Go.Proofs.Ytlfldbagbafjfaa
