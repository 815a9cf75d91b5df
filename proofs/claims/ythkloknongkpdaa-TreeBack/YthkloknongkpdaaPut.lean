/- words.Put by its contract. -/
import Derived.Test.YthkloknongkpdaaClone
import Derived.Test.YthkloknongkpdaaLay
namespace Go.Proofs.Ythkloknongkpdaa
set_option maxRecDepth 100000
open Go.RowKit

end Go.Proofs.Ythkloknongkpdaa
