/- Load: these texts, one behind another. -/
import Derived.Test.YtpbljjbhfhfmgaaDoorRows
import Derived.Test.YtpbljjbhfhfmgaaDoorMxMath
import Derived.WalkKit
import Derived.WalkLawsBesides
import Derived.Below
/- words.fits, holds and load by their contracts. -/
namespace Go.Proofs.YtpbljjbhfhfmgaaDoor
set_option maxRecDepth 100000
open Go.RowKit

end Go.Proofs.YtpbljjbhfhfmgaaDoor
