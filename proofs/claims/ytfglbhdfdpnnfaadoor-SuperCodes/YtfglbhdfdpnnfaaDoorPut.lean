/- words.Put by its contract. -/
import Derived.Test.YtfglbhdfdpnnfaaDoorClone
import Derived.Test.YtfglbhdfdpnnfaaDoorLay
namespace Go.Proofs.YtfglbhdfdpnnfaaDoor
set_option maxRecDepth 100000
open Go.RowKit

end Go.Proofs.YtfglbhdfdpnnfaaDoor
