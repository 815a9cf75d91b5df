/- joistref07.Right, Code, Of and Compare by their contracts. -/
import Derived.Test.YtmefepjjlhphnaaInfo
import Derived.Test.YtmefepjjlhphnaaHandM
import Derived.Test.YtmefepjjlhphnaaPart
import Derived.Laws.ResultCell
import Derived.Lib.OthersKept
namespace Go.Proofs.Ytmefepjjlhphnaa
set_option maxRecDepth 100000
open Go.RowKit
set_option linter.unusedVariables false
set_option linter.unusedSimpArgs false
set_option maxRecDepth 100000

theorem refHRight_any (I G : Int) (w : World) :
    Calls Try.prog 27 #[.agg #[.int .i64 I, .int .i64 G]] w fun e w' => e = .returned (.bool (rightHB I G)) ∧ Below w.heap.size w w' := by
  go_enter Try.func27, Try.ntmps27
  go_wp2
  all_goals (go_ret; refine ⟨ret_bool ?_, (Below.refl _ w).alloc (Nat.le_refl _) _⟩)
  all_goals (rw [Bool.eq_iff_iff, rightHB_iff]; simp only [decide_eq_true_eq, Bool.false_eq_true, false_iff]; omega)
/-- What was boxed stands. -/
theorem box_cells {w w1 : World} {a b : Value} {T : TypeId} (hb : Below (w.alloc (.cells #[a, b] T)).heap.size (w.alloc (.cells #[a, b] T)) w1) : w1.cell? ⟨w.heap.size, 0, none⟩ = some a ∧ w1.cell? ⟨w.heap.size, 1, none⟩ = some b := by
  have e : w1.heap[w.heap.size]? = some (.cells #[a, b] T (0, 0)) := by
    rw [hb.block _ (by simp)]
    show (w.heap.push _)[w.heap.size]? = _
    simp
  constructor
  · rw [Lib.cell_of_heap e]; rfl
  · rw [Lib.cell_of_heap e]; rfl
end Go.Proofs.Ytmefepjjlhphnaa
