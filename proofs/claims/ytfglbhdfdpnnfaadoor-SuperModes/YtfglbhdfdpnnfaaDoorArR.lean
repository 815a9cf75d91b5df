/- Areas in a block of their own, shapes in one. -/
import Derived.Test.YtfglbhdfdpnnfaaDoorShpM
import Derived.Test.YtfglbhdfdpnnfaaDoorLent
import Derived.Test.YtfglbhdfdpnnfaaDoorOff
namespace Go.Proofs.YtfglbhdfdpnnfaaDoor
set_option maxRecDepth 100000
open Go.RowKit
set_option linter.unusedVariables false
set_option linter.unusedSimpArgs false
set_option maxRecDepth 100000

structure Ars where
  a0 : Int
  a1 : Int
  a2 : Int
  a3 : Int
  a4 : Int
  a5 : Int
  a6 : Int
  a7 : Int
  a8 : Int
def Ars.z : Ars := ⟨0, 0, 0, 0, 0, 0, 0, 0, 0⟩
def arA (s : Shp) : Ars := ⟨ar0 s, ar1 s, ar2 s, ar3 s, ar4 s, ar5 s, ar6 s, ar7 s, ar8 s⟩
/-- Areas in a block of their own. -/
def BxA (w : World) (b : Nat) (x : Ars) : Prop := w.heap[b]? = some (.cells #[.int .i64 x.a0, .int .i64 x.a1, .int .i64 x.a2, .int .i64 x.a3, .int .i64 x.a4, .int .i64 x.a5, .int .i64 x.a6, .int .i64 x.a7, .int .i64 x.a8] 59 (0, 0))
theorem BxA.lt {w : World} {b : Nat} {s : Ars} (h : BxA w b s) : b < w.heap.size := (Array.getElem?_eq_some_iff.1 h).1
theorem BxA.kept {w w' : World} {b : Nat} {s : Ars} (h : BxA w b s) (hb : Below w.heap.size w w') : BxA w' b s := (hb.block b h.lt).trans h
theorem BxA.more {w : World} {b : Nat} {s : Ars} (h : BxA w b s) (o : Obj) : BxA (w.alloc o) b s := h.kept ((Below.refl _ _).alloc (Nat.le_refl _) _)
structure CelA (w : World) (b : Nat) (x : Ars) : Prop where
  c0 : w.cell? ⟨b, 0, none⟩ = some (.int .i64 x.a0)
  c1 : w.cell? ⟨b, 1, none⟩ = some (.int .i64 x.a1)
  c2 : w.cell? ⟨b, 2, none⟩ = some (.int .i64 x.a2)
  c3 : w.cell? ⟨b, 3, none⟩ = some (.int .i64 x.a3)
  c4 : w.cell? ⟨b, 4, none⟩ = some (.int .i64 x.a4)
  c5 : w.cell? ⟨b, 5, none⟩ = some (.int .i64 x.a5)
  c6 : w.cell? ⟨b, 6, none⟩ = some (.int .i64 x.a6)
  c7 : w.cell? ⟨b, 7, none⟩ = some (.int .i64 x.a7)
  c8 : w.cell? ⟨b, 8, none⟩ = some (.int .i64 x.a8)
theorem BxA.cells {w : World} {b : Nat} {s : Ars} (h : BxA w b s) : CelA w b s := by
  unfold BxA at h
  refine ⟨?_, ?_, ?_, ?_, ?_, ?_, ?_, ?_, ?_⟩ <;> simp [World.cell?, h]
theorem BxA.free {w : World} {b : Nat} {s : Ars} (h : BxA w b s) (i : Nat) : w.frozen? ⟨b, i, none⟩ = false := frozen_of_row w b i _ 59 h
theorem bxA_new (w : World) (x : Ars) : BxA (w.alloc (.cells #[.int .i64 x.a0, .int .i64 x.a1, .int .i64 x.a2, .int .i64 x.a3, .int .i64 x.a4, .int .i64 x.a5, .int .i64 x.a6, .int .i64 x.a7, .int .i64 x.a8] 59)) w.heap.size x := heap_alloc_new w _
/-- A shape in a block of its own. -/
def BxS4 (w : World) (b : Nat) (s : Shp) : Prop := w.heap[b]? = some (.cells #[.int .i64 s.pg, .int .i64 s.sl, .int .i64 s.rt, .int .i64 s.rm] 23 (0, 0))
theorem BxS4.lt {w : World} {b : Nat} {s : Shp} (h : BxS4 w b s) : b < w.heap.size := (Array.getElem?_eq_some_iff.1 h).1
theorem BxS4.kept {w w' : World} {b : Nat} {s : Shp} (h : BxS4 w b s) (hb : Below w.heap.size w w') : BxS4 w' b s := (hb.block b h.lt).trans h
theorem BxS4.more {w : World} {b : Nat} {s : Shp} (h : BxS4 w b s) (o : Obj) : BxS4 (w.alloc o) b s := h.kept ((Below.refl _ _).alloc (Nat.le_refl _) _)
theorem BxS4.cells {w : World} {b : Nat} {s : Shp} (h : BxS4 w b s) : w.cell? ⟨b, 0, none⟩ = some (.int .i64 s.pg) ∧ w.cell? ⟨b, 1, none⟩ = some (.int .i64 s.sl) ∧ w.cell? ⟨b, 2, none⟩ = some (.int .i64 s.rt) ∧ w.cell? ⟨b, 3, none⟩ = some (.int .i64 s.rm) := by
  unfold BxS4 at h
  refine ⟨?_, ?_, ?_, ?_⟩ <;> simp [World.cell?, h]
theorem BxS4.free {w : World} {b : Nat} {s : Shp} (h : BxS4 w b s) (i : Nat) : w.frozen? ⟨b, i, none⟩ = false := frozen_of_row w b i _ 23 h
theorem bxS4_new (w : World) (s : Shp) : BxS4 (w.alloc (.cells #[.int .i64 s.pg, .int .i64 s.sl, .int .i64 s.rt, .int .i64 s.rm] 23)) w.heap.size s := heap_alloc_new w _
end Go.Proofs.YtfglbhdfdpnnfaaDoor
