/- joistref16.Areas, Outside by their contracts. -/
import Derived.Test.YtfglbhdfdpnnfaaDoorRefShp
namespace Go.Proofs.YtfglbhdfdpnnfaaDoor
set_option maxRecDepth 100000
open Go.RowKit
set_option linter.unusedVariables false
set_option linter.unusedSimpArgs false
set_option maxRecDepth 100000

end Go.Proofs.YtfglbhdfdpnnfaaDoor
