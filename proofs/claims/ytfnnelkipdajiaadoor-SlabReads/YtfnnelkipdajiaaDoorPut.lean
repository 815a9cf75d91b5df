/- words.Put by its contract. -/
import Derived.Test.YtfnnelkipdajiaaDoorClone
import Derived.Test.YtfnnelkipdajiaaDoorLay
namespace Go.Proofs.YtfnnelkipdajiaaDoor
set_option maxRecDepth 100000
open Go.RowKit

end Go.Proofs.YtfnnelkipdajiaaDoor
