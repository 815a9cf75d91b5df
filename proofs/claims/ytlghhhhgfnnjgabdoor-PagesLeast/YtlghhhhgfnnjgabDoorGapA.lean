/- gaps.roundUp, Need, fits, end, between, Right by their contracts. -/
import Derived.Test.YtlghhhhgfnnjgabDoorGapR
import Derived.Test.YtlghhhhgfnnjgabDoorLent
import Derived.Laws.ResultCell
import Derived.Lib.OthersKept
import Derived.WalkKit
import Derived.LoopTactic
namespace Go.Proofs.YtlghhhhgfnnjgabDoor
set_option maxRecDepth 100000
open Go.RowKit
set_option linter.unusedVariables false
set_option linter.unusedSimpArgs false
set_option maxRecDepth 100000

/-- A span in a block of its own. -/
def Spn.obj (s : Spn) : Obj := .cells #[.int .i64 s.pos, .int .i64 s.sz] 29
def BxP (w : World) (b : Nat) (s : Spn) : Prop := w.heap[b]? = some (.cells #[.int .i64 s.pos, .int .i64 s.sz] 29 (0, 0))
theorem BxP.lt {w : World} {b : Nat} {s : Spn} (h : BxP w b s) : b < w.heap.size := (Array.getElem?_eq_some_iff.1 h).1
theorem BxP.kept {w w' : World} {b : Nat} {s : Spn} (h : BxP w b s) (hb : Below w.heap.size w w') : BxP w' b s := (hb.block b h.lt).trans h
theorem BxP.off {F : Nat → Prop} {w w' : World} {b : Nat} {s : Spn} (h : BxP w b s) (ho : Off F w w') (hn : ¬ F b) : BxP w' b s := (ho.block b h.lt hn).trans h
theorem BxP.p2 {w : World} {b : Nat} {s : Spn} (h : BxP w b s) : P2 w b 0 s := by
  refine P2.of fun j u hu => ?_
  rw [cell_of_row w b (0 + j) _ 29 (0, 0) h, Nat.zero_add]
  simpa [Spn.cells] using hu
theorem BxP.cells {w : World} {b : Nat} {s : Spn} (h : BxP w b s) : w.cell? ⟨b, 0, none⟩ = some (.int .i64 s.pos) ∧ w.cell? ⟨b, 1, none⟩ = some (.int .i64 s.sz) ∧ w.frozen? ⟨b, 0, none⟩ = false ∧ w.frozen? ⟨b, 1, none⟩ = false :=
  ⟨h.p2.c0, by have := h.p2.c1; simpa using this, frozen_of_row w b 0 _ 29 h, frozen_of_row w b 1 _ 29 h⟩
theorem bxP_new (w : World) (s : Spn) : BxP (w.alloc s.obj) w.heap.size s := heap_alloc_new w _
theorem bxP_new' (w : World) (p z : Int) : BxP (w.alloc (.cells #[.int .i64 p, .int .i64 z] 29)) w.heap.size ⟨p, z⟩ := heap_alloc_new w _
theorem BxP.set {w : World} {b : Nat} {s : Spn} (h : BxP w b s) (t : Spn) : BxP ((w.setCell ⟨b, 0, none⟩ (.int .i64 t.pos)).setCell ⟨b, 1, none⟩ (.int .i64 t.sz)) b t := by
  have h1 := heap_setCell_same w b 0 _ 29 (.int .i64 t.pos) h
  have h2 := heap_setCell_same _ b 1 _ 29 (.int .i64 t.sz) h1
  exact h2

end Go.Proofs.YtlghhhhgfnnjgabDoor
