/- What is known of the types of bytes and numbers. -/
import Derived.Test.YtfglbhdfdpnnfaaDoorRow
import Derived.Test.YtfglbhdfdpnnfaaDoorProg
import Derived.WalkSpells
namespace Go.Proofs.YtfglbhdfdpnnfaaDoor
set_option maxRecDepth 100000
open Go.RowKit

theorem Tryd.info5 : (Tryd.prog.info? 5).map (fun i => (i.zero, i.size, i.bytes)) = some (some (.int .u8 0), 1, 1) := by kernel_rfl
theorem Tryd.info3 : (Tryd.prog.info? 3).map (fun i => (i.zero, i.size, i.bytes)) = some (some (.int .i64 0), 1, 8) := by kernel_rfl
end Go.Proofs.YtfglbhdfdpnnfaaDoor
