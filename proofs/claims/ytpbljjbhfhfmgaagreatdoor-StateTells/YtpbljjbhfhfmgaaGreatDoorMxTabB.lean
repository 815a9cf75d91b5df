/- TabB: these texts, one behind another. -/
import Derived.Test.YtpbljjbhfhfmgaaGreatDoorMxTabA
import Derived.Deep.QuietTactic
import Derived.BigQuiet
import Derived.Deep.LoopGhost
/- table.Find, and the closure that goes through the open slots from behind, by their contracts. -/
namespace Go.Proofs.YtpbljjbhfhfmgaaGreatDoor
set_option maxRecDepth 100000
open Go.RowKit
set_option linter.unusedVariables false
set_option linter.unusedSimpArgs false
set_option maxRecDepth 100000

/-- What the closure has caught: how far it has come, in kb; the table, in lb. -/
structure Beh (w : World) (kb lb : Nat) (ao : Option Addr) (n cap c : Nat) : Prop where
  ok : w.heap[kb]? = some (.cells #[.int .i64 (c : Int)] 3 (0, 0))
  ol : w.heap[lb]? = some (.cells #[.slice ao n cap] 24 (0, 0))
theorem Beh.ne {w : World} {kb lb : Nat} {ao : Option Addr} {n cap c : Nat} (h : Beh w kb lb ao n cap c) : kb ≠ lb := by
  rintro rfl
  have := h.ok.symm.trans h.ol
  simp at this
theorem Beh.below {w w' : World} {kb lb : Nat} {ao : Option Addr} {n cap c : Nat} (h : Beh w kb lb ao n cap c) (hb : Below w.heap.size w w') : Beh w' kb lb ao n cap c :=
  ⟨(hb.block kb (Array.getElem?_eq_some_iff.1 h.ok).1).trans h.ok, (hb.block lb (Array.getElem?_eq_some_iff.1 h.ol).1).trans h.ol⟩
theorem Beh.off {F : Nat → Prop} {w w' : World} {kb lb : Nat} {ao : Option Addr} {n cap c : Nat} (h : Beh w kb lb ao n cap c) (ho : Off F w w') (hk : ¬ F kb) (hl : ¬ F lb) : Beh w' kb lb ao n cap c :=
  ⟨(ho.block kb (Array.getElem?_eq_some_iff.1 h.ok).1 hk).trans h.ok, (ho.block lb (Array.getElem?_eq_some_iff.1 h.ol).1 hl).trans h.ol⟩
theorem Beh.cells {w : World} {kb lb : Nat} {ao : Option Addr} {n cap c : Nat} (h : Beh w kb lb ao n cap c) : w.cell? ⟨kb, 0, none⟩ = some (.int .i64 (c : Int)) ∧ w.frozen? ⟨kb, 0, none⟩ = false ∧ w.cell? ⟨lb, 0, none⟩ = some (.slice ao n cap) := by
  refine ⟨?_, frozen_of_row w kb 0 _ 3 h.ok, ?_⟩
  · rw [cell_of_row w kb 0 _ 3 (0, 0) h.ok]; rfl
  · rw [cell_of_row w lb 0 _ 24 (0, 0) h.ol]; rfl
theorem Beh.set {w : World} {kb lb : Nat} {ao : Option Addr} {n cap c : Nat} (h : Beh w kb lb ao n cap c) (d : Nat) : Beh (w.setCell ⟨kb, 0, none⟩ (.int .i64 (d : Int))) kb lb ao n cap d := by
  refine ⟨?_, ?_⟩
  · rw [heap_setCell_same w kb 0 _ 3 _ h.ok]; rfl
  · rw [heap_setCell_other w ⟨kb, 0, none⟩ lb _ (fun e => h.ne e.symm)]; exact h.ol
def lastC (l : List Slt) (c : Nat) : Nat := (lastO l c).getD 0
def lastB (l : List Slt) (c : Nat) : Bool := (lastO l c).isSome
theorem last_some {l : List Slt} {c j : Nat} (h : lastO l c = some j) : lastC l c = j ∧ lastB l c = true := by simp [lastC, lastB, h]
theorem last_none {l : List Slt} {c : Nat} (h : lastO l c = none) : lastC l c = 0 ∧ lastB l c = false := by simp [lastC, lastB, h]
theorem last_no {l : List Slt} {k : Nat} (h : openB (sg l k) = false) : lastC l (k + 1) = lastC l k ∧ lastB l (k + 1) = lastB l k := by simp [lastC, lastB, lastO_no h]
end Go.Proofs.YtpbljjbhfhfmgaaGreatDoor
