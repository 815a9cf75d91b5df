/- The dirty lines. -/
import Derived.Test.YtgiippbjieecmabDev
namespace Go.Proofs.Ytgiippbjieecmab
set_option maxRecDepth 100000
def dirtyL (S : St) : List Int := ((List.range S.n).filter (fun i => (S.lin i).isSome)).map Int.ofNat
end Go.Proofs.Ytgiippbjieecmab
