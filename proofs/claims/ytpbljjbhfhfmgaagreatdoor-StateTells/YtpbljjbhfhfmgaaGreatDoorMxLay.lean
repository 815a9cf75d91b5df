/- Lay · RefGet · Get: these texts, one behind another. -/
import Derived.Test.YtpbljjbhfhfmgaaGreatDoorMxLoad
import Derived.Test.YtpbljjbhfhfmgaaGreatDoorMxHandM
/- words.lay by its contract: the eight bytes of a number are laid over a row of the call's own. -/
namespace Go.Proofs.YtpbljjbhfhfmgaaGreatDoor
set_option maxRecDepth 100000
open Go.RowKit

end Go.Proofs.YtpbljjbhfhfmgaaGreatDoor
/- joistref01.Get and Zero by their contracts. -/
namespace Go.Proofs.YtpbljjbhfhfmgaaGreatDoor
set_option maxRecDepth 100000
open Go.RowKit

end Go.Proofs.YtpbljjbhfhfmgaaGreatDoor
/- words.Get by its contract. -/
namespace Go.Proofs.YtpbljjbhfhfmgaaGreatDoor
set_option maxRecDepth 100000
open Go.RowKit

end Go.Proofs.YtpbljjbhfhfmgaaGreatDoor
