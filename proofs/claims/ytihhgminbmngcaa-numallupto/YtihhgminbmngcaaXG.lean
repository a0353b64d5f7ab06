import Derived.Test.YtihhgminbmngcaaXF
import Derived.Test.YtihhgminbmngcaaNP
namespace Go.Proofs.Ytihhgminbmngcaa
open Go.RowKit
set_option linter.unusedVariables false
set_option maxRecDepth 100000

theorem dig_get (v : Int) : ∀ (n i : Nat), i < n → (dig v n).getD i 0 = v / 256 ^ (n - 1 - i) % 256
  | 0, i, h => by omega
  | n + 1, 0, h => by simp [dig]
  | n + 1, i + 1, h => by
    have := dig_get v n i (by omega)
    rw [show n + 1 - 1 - (i + 1) = n - 1 - i by omega, ← this]
    simp [dig]

def vals (l : List Int) : List Value := l.map (Value.int .u8)
theorem vals_length (l : List Int) : (vals l).length = l.length := by simp [vals]
theorem vals_snoc (l : List Int) (x : Int) : vals (l ++ [x]) = vals l ++ [.int .u8 x] := by simp [vals]

end Go.Proofs.Ytihhgminbmngcaa
