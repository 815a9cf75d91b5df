/- wal.Right, inRecords, Mine by their contracts. -/
import Derived.Test.YtfglbhdfdpnnfaaDoorLgM
import Derived.Test.YtfglbhdfdpnnfaaDoorPart
import Derived.Test.YtfglbhdfdpnnfaaDoorLent
import Derived.WalkKit
namespace Go.Proofs.YtfglbhdfdpnnfaaDoor
set_option maxRecDepth 100000
open Go.RowKit
set_option linter.unusedVariables false
set_option linter.unusedSimpArgs false
set_option maxRecDepth 100000

theorem inG_t {g : Lg} {line : Int} (h : g.first ≤ line ∧ line < g.first + 2 * g.room) : inG g line = true := decide_eq_true h
theorem inG_f {g : Lg} {line : Int} (h : ¬ (g.first ≤ line ∧ line < g.first + 2 * g.room)) : inG g line = false := decide_eq_false h
theorem mineG_f {g : Lg} {line : Int} (h : rightG g 4096 = false) : mineG g line = false := by simp [mineG, h]
theorem mineG_t {g : Lg} {line : Int} (h : rightG g 4096 = true) : mineG g line = (decide (line = g.mark) || inG g line) := by simp [mineG, h]
end Go.Proofs.YtfglbhdfdpnnfaaDoor
