/- slices.Clone by its contract. -/
import Derived.Test.YtijfiaggneeibaaInfo
namespace Go.Proofs.Ytijfiaggneeibaa
set_option maxRecDepth 100000
open Go.RowKit


end Go.Proofs.Ytijfiaggneeibaa
