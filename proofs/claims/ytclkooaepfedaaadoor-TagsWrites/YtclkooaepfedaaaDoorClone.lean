/- slices.Clone by its contract. -/
import Derived.Test.YtclkooaepfedaaaDoorInfo
namespace Go.Proofs.YtclkooaepfedaaaDoor
set_option maxRecDepth 100000
open Go.RowKit


end Go.Proofs.YtclkooaepfedaaaDoor
