/- words.Put by its contract. -/
import Derived.Test.YtmefepjjlhphnaaDoorClone
import Derived.Test.YtmefepjjlhphnaaDoorMgN
namespace Go.Proofs.YtmefepjjlhphnaaDoor
set_option maxRecDepth 100000
open Go.RowKit

end Go.Proofs.YtmefepjjlhphnaaDoor
