/- RefOf · Of · Put · RefAll · All: these texts, one behind another. -/
import Derived.Test.YtpbljjbhfhfmgaaDoorMxInfo
import Derived.Test.YtpbljjbhfhfmgaaDoorMxLay
/- joistref01.Of by its contract. -/
namespace Go.Proofs.YtpbljjbhfhfmgaaDoor
set_option maxRecDepth 100000
open Go.RowKit

end Go.Proofs.YtpbljjbhfhfmgaaDoor
/- words.Of by its contract. -/
namespace Go.Proofs.YtpbljjbhfhfmgaaDoor
set_option maxRecDepth 100000
open Go.RowKit

end Go.Proofs.YtpbljjbhfhfmgaaDoor
/- words.Put by its contract. -/
namespace Go.Proofs.YtpbljjbhfhfmgaaDoor
set_option maxRecDepth 100000
open Go.RowKit

end Go.Proofs.YtpbljjbhfhfmgaaDoor
/- joistref01.All by its contract. -/
namespace Go.Proofs.YtpbljjbhfhfmgaaDoor
set_option maxRecDepth 100000
open Go.RowKit

end Go.Proofs.YtpbljjbhfhfmgaaDoor
/- words.All by its contract. -/
namespace Go.Proofs.YtpbljjbhfhfmgaaDoor
set_option maxRecDepth 100000
open Go.RowKit

end Go.Proofs.YtpbljjbhfhfmgaaDoor
