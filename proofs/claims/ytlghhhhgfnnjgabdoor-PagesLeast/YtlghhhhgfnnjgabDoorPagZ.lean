/- pages' calls by the contracts that the walks take: Runs, Best (PzR, PzB), Kinds (HpE), Place (HpG), Mates (HpH). -/
import Derived.Test.YtlghhhhgfnnjgabDoorHpH
namespace Go.Proofs.YtlghhhhgfnnjgabDoor
set_option maxRecDepth 100000
end Go.Proofs.YtlghhhhgfnnjgabDoor
