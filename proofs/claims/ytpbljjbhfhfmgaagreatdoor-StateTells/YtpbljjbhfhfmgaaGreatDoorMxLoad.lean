/- Load: these texts, one behind another. -/
import Derived.Test.YtpbljjbhfhfmgaaGreatDoorRows
import Derived.Test.YtpbljjbhfhfmgaaGreatDoorMxHandM
import Derived.WalkKit
import Derived.WalkLawsBesides
import Derived.Below
/- words.fits, holds and load by their contracts. -/
namespace Go.Proofs.YtpbljjbhfhfmgaaGreatDoor
set_option maxRecDepth 100000
open Go.RowKit

end Go.Proofs.YtpbljjbhfhfmgaaGreatDoor
