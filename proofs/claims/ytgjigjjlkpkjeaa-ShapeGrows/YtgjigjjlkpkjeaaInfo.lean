/- What is known of the types of bytes and numbers. -/
import Derived.Test.YtgjigjjlkpkjeaaRow
import Derived.Test.YtgjigjjlkpkjeaaProg
import Derived.WalkSpells
namespace Go.Proofs.Ytgjigjjlkpkjeaa
set_option maxRecDepth 100000
open Go.RowKit

theorem Try.info5 : (Try.prog.info? 5).map (fun i => (i.zero, i.size, i.bytes)) = some (some (.int .u8 0), 1, 1) := by kernel_rfl
theorem Try.info3 : (Try.prog.info? 3).map (fun i => (i.zero, i.size, i.bytes)) = some (some (.int .i64 0), 1, 8) := by kernel_rfl
end Go.Proofs.Ytgjigjjlkpkjeaa
