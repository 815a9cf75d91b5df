/- A number that an int64 can bear. -/
import Derived.Test.YtfglbhdfdpnnfaaDoorRow
namespace Go.Proofs.YtfglbhdfdpnnfaaDoor
set_option maxRecDepth 100000
def Rg (n : Int) : Prop := -9223372036854775808 ≤ n ∧ n ≤ 9223372036854775807
end Go.Proofs.YtfglbhdfdpnnfaaDoor
