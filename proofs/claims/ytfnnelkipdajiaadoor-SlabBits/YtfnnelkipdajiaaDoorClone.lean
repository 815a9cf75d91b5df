/- slices.Clone by its contract. -/
import Derived.Test.YtfnnelkipdajiaaDoorInfo
namespace Go.Proofs.YtfnnelkipdajiaaDoor
set_option maxRecDepth 100000
open Go.RowKit


end Go.Proofs.YtfnnelkipdajiaaDoor
