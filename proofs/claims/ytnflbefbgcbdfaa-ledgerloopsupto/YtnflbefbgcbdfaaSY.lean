/- Cut. -/
import Derived.Test.YtnflbefbgcbdfaaSX0
namespace Go.Proofs.Ytnflbefbgcbdfaa
open Go.RowKit
set_option linter.unusedVariables false
set_option maxRecDepth 100000
set_option maxHeartbeats 400000

end Go.Proofs.Ytnflbefbgcbdfaa
