/- Lay · RefGet · Get: these texts, one behind another. -/
import Derived.Test.YtpbljjbhfhfmgaaDoorMxLoad
import Derived.Test.YtpbljjbhfhfmgaaDoorMxRow
/- words.lay by its contract: the eight bytes of a number are laid over a row of the call's own. -/
namespace Go.Proofs.YtpbljjbhfhfmgaaDoor
set_option maxRecDepth 100000
open Go.RowKit

end Go.Proofs.YtpbljjbhfhfmgaaDoor
/- joistref01.Get and Zero by their contracts. -/
namespace Go.Proofs.YtpbljjbhfhfmgaaDoor
set_option maxRecDepth 100000
open Go.RowKit

end Go.Proofs.YtpbljjbhfhfmgaaDoor
/- words.Get by its contract. -/
namespace Go.Proofs.YtpbljjbhfhfmgaaDoor
set_option maxRecDepth 100000
open Go.RowKit

end Go.Proofs.YtpbljjbhfhfmgaaDoor
