/- words.Put by its contract. -/
import Derived.Test.YtclkooaepfedaaaDoorClone
import Derived.Test.YtclkooaepfedaaaDoorLay
namespace Go.Proofs.YtclkooaepfedaaaDoor
set_option maxRecDepth 100000
open Go.RowKit

end Go.Proofs.YtclkooaepfedaaaDoor
