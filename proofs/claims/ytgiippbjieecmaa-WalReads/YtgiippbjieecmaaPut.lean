/- words.Put by its contract. -/
import Derived.Test.YtgiippbjieecmaaClone
import Derived.Test.YtgiippbjieecmaaLay
namespace Go.Proofs.Ytgiippbjieecmaa
set_option maxRecDepth 100000
open Go.RowKit

end Go.Proofs.Ytgiippbjieecmaa
