/- Step · RefSum: these texts, one behind another. -/
import Derived.Test.YtpbljjbhfhfmgaaDoorMxMath
import Derived.Test.YtpbljjbhfhfmgaaDoorMxRow
import Derived.Test.YtpbljjbhfhfmgaaDoorRows
/- crc.step, run, Sum and Add by their contracts. -/
namespace Go.Proofs.YtpbljjbhfhfmgaaDoor
set_option maxRecDepth 100000
open Go.RowKit

end Go.Proofs.YtpbljjbhfhfmgaaDoor
/- joistref02.goOn, Sum and Add by their contracts. -/
namespace Go.Proofs.YtpbljjbhfhfmgaaDoor
set_option maxRecDepth 100000
open Go.RowKit

end Go.Proofs.YtpbljjbhfhfmgaaDoor
