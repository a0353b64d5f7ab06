/- A field of what a call answers. -/
import Derived.Test.YtmcodfkmdpbjiaaJH
namespace Go.Proofs.Ytmcodfkmdpbjiaa
open Go.RowKit
set_option maxRecDepth 100000
theorem Try.isz2 : (Try.prog.info? 2).map (·.size) = some 1 := by kernel_rfl
theorem fld5 (v0 v1 v2 v3 v4 : Value) (n : Int) (W : World) : (Instr.field 30 (.agg #[v0, v1, v2, v3, v4, .int .i64 n]) 5).run Try.prog W = .ok (.int .i64 n) W := by
  unfold Instr.field
  simp [asAgg, part]
end Go.Proofs.Ytmcodfkmdpbjiaa
