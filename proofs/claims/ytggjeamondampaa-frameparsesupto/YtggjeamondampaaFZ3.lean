/- Decode whole. -/
import Derived.Test.YtggjeamondampaaFZ2
import Derived.Test.YtggjeamondampaaFY5
namespace Go.Proofs.Ytggjeamondampaa
open Go.RowKit
set_option linter.unusedVariables false
set_option maxRecDepth 100000
set_option maxHeartbeats 1000000
theorem decode_any {w : World} {a : Option Addr} {l : List Int} {c k : Nat} (hk : k ≤ l.length) (hR : RB w a l c) :
    Calls Try.prog 23 #[.slice a l.length c, .int .i64 (k : Int)] w (DecPost w l k) :=
  decode_of hk hR.len fun W g hg hgg hb =>
    have ng : ∀ x, a = some x → x.block ≠ g := fun x hx => by have := hR.inb x hx; omega
    frame_any hb (hR.far (grown_some hg g) ng) hk ng
end Go.Proofs.Ytggjeamondampaa
