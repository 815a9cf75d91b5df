/- The document's classes of cells (joistref12) by their contracts. -/
import Derived.Test.YtlghhhhgfnnjgabDoorClsA
import Derived.Laws.AppendOwnNone
namespace Go.Proofs.YtlghhhhgfnnjgabDoor
set_option maxRecDepth 100000
open Go.RowKit
set_option linter.unusedVariables false
set_option linter.unusedSimpArgs false
set_option maxRecDepth 100000

/-- The sizes stand in a block. -/
structure Sz (w : World) (b : Nat) : Prop where
  lt : b < w.heap.size
  spot : ∀ i, i < 6 → w.cell? ⟨b, i, none⟩ = some (.int .i64 (szL.getD i 0))
theorem Sz.below {w w' : World} {b : Nat} (h : Sz w b) (hb : Below w.heap.size w w') : Sz w' b :=
  ⟨Nat.lt_of_lt_of_le h.lt hb.size, fun i hi => by rw [World.cell?_of_block (a := ⟨b, i, none⟩) (hb.block b h.lt)]; exact h.spot i hi⟩
theorem Sz.c0 {w : World} {b : Nat} (h : Sz w b) : w.cell? ⟨b, 0, none⟩ = some (.int .i64 2) := h.spot 0 (by omega)
theorem Sz.c1 {w : World} {b : Nat} (h : Sz w b) : w.cell? ⟨b, 1, none⟩ = some (.int .i64 3) := h.spot 1 (by omega)
theorem Sz.c2 {w : World} {b : Nat} (h : Sz w b) : w.cell? ⟨b, 2, none⟩ = some (.int .i64 5) := h.spot 2 (by omega)
theorem Sz.c3 {w : World} {b : Nat} (h : Sz w b) : w.cell? ⟨b, 3, none⟩ = some (.int .i64 7) := h.spot 3 (by omega)
theorem Sz.c4 {w : World} {b : Nat} (h : Sz w b) : w.cell? ⟨b, 4, none⟩ = some (.int .i64 10) := h.spot 4 (by omega)
theorem Sz.c5 {w : World} {b : Nat} (h : Sz w b) : w.cell? ⟨b, 5, none⟩ = some (.int .i64 15) := h.spot 5 (by omega)
theorem sz_new (w : World) : Sz (w.alloc (.cells #[.int .i64 2, .int .i64 3, .int .i64 5, .int .i64 7, .int .i64 10, .int .i64 15] 3)) w.heap.size := by
  refine ⟨by simp, fun i hi => ?_⟩
  rw [cell_of_row _ w.heap.size i #[.int .i64 2, .int .i64 3, .int .i64 5, .int .i64 7, .int .i64 10, .int .i64 15] 3 (0, 0) (heap_alloc_new w _)]
  rcases (show i = 0 ∨ i = 1 ∨ i = 2 ∨ i = 3 ∨ i = 4 ∨ i = 5 by omega) with rfl | rfl | rfl | rfl | rfl | rfl <;> rfl
theorem szL_le {k : Nat} (hk : k < 6) : 2 ≤ szL.getD k 0 ∧ szL.getD k 0 ≤ 15 := by
  rcases (show k = 0 ∨ k = 1 ∨ k = 2 ∨ k = 3 ∨ k = 4 ∨ k = 5 by omega) with rfl | rfl | rfl | rfl | rfl | rfl <;> decide

end Go.Proofs.YtlghhhhgfnnjgabDoor
