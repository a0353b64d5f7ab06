/- Cut. -/
import Derived.Test.YtnflbefbgcbdfaaGreatSX0
namespace Go.Proofs.YtnflbefbgcbdfaaGreat
set_option maxRecDepth 100000
open Go.RowKit
set_option linter.unusedVariables false
set_option maxHeartbeats 400000

end Go.Proofs.YtnflbefbgcbdfaaGreat
