/- joistref01.Put by its contract. -/
import Derived.Test.YtgiippbjieecmaaPut
import Derived.Test.YtgiippbjieecmaaRefBytes
namespace Go.Proofs.Ytgiippbjieecmaa
set_option maxRecDepth 100000
open Go.RowKit

end Go.Proofs.Ytgiippbjieecmaa
