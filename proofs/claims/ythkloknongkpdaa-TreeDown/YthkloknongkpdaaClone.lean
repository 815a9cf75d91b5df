/- slices.Clone by its contract. -/
import Derived.Test.YthkloknongkpdaaInfo
namespace Go.Proofs.Ythkloknongkpdaa
set_option maxRecDepth 100000
open Go.RowKit


end Go.Proofs.Ythkloknongkpdaa
