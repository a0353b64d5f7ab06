/- math/bits.Len64, off the shelf. -/
import Derived.Test.YtbdjlhkgpblebaaDoorHA
import Derived.Shelf.Strconv.Itoa0
import Derived.Shelf.Lay
import Derived.Ground.NamesProg
namespace Go.Proofs.YtbdjlhkgpblebaaDoor
open Go.Shelf Go.RowKit Go.Lib
set_option linter.unusedVariables false
set_option maxRecDepth 100000

shelf_lay Lays.n129 Nm 129 at Tryd as Tryd.bitsLen64

theorem len64_any (x : Nat) (hx : x < 18446744073709551616) (w : World) :
    Calls Tryd.prog 53 #[.int .u64 x] w fun e w' => e = .returned (.int .i64 (Lib.bitLen x : Nat)) ∧ w' = w := by
  have h := Any.bits_Len64 Tryd.bitsLen64 (x : Int) w (by omega) (by omega)
  rw [Int.toNat_natCast] at h
  exact h
end Go.Proofs.YtbdjlhkgpblebaaDoor
