/- slices.Clone by its contract. -/
import Derived.Test.YtmefepjjlhphnaaDoorMgM
namespace Go.Proofs.YtmefepjjlhphnaaDoor
set_option maxRecDepth 100000
open Go.RowKit


end Go.Proofs.YtmefepjjlhphnaaDoor
