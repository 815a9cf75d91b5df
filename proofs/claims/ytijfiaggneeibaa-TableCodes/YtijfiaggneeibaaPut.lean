/- words.Put by its contract. -/
import Derived.Test.YtijfiaggneeibaaClone
import Derived.Test.YtijfiaggneeibaaLay
namespace Go.Proofs.Ytijfiaggneeibaa
set_option maxRecDepth 100000
open Go.RowKit

end Go.Proofs.Ytijfiaggneeibaa
