/- StK: these texts, one behind another. -/
import Derived.Test.YtpbljjbhfhfmgaaDoorMxStR
import Derived.Test.YtpbljjbhfhfmgaaDoorMxStLs
import Derived.Test.YtpbljjbhfhfmgaaDoorMxStM
/- What a law on a state meets: its box, small, Few and Right. The owners of words. -/
namespace Go.Proofs.YtpbljjbhfhfmgaaDoor
set_option maxRecDepth 100000
open Go.RowKit
set_option linter.unusedVariables false
set_option linter.unusedSimpArgs false
set_option maxRecDepth 100000

/-- The block b holds 2048 numbers, F's. -/
def CntO (w : World) (b : Nat) (F : Nat → Int) : Prop := w.heap[b]? = some (.cells ((List.range 2048).map fun k => Value.int .i64 (F k)).toArray 31 (0, 0))
theorem CntO.lt {w : World} {b : Nat} {F : Nat → Int} (h : CntO w b F) : b < w.heap.size := (Array.getElem?_eq_some_iff.1 h).1
theorem CntO.kept {w w' : World} {b : Nat} {F : Nat → Int} (h : CntO w b F) (hb : Below w.heap.size w w') : CntO w' b F := (hb.block b h.lt).trans h
theorem CntO.cell {w : World} {b : Nat} {F : Nat → Int} (h : CntO w b F) {k : Nat} (hk : k < 2048) : w.cell? ⟨b, k, none⟩ = some (.int .i64 (F k)) := by
  rw [cell_of_row w b k _ 31 (0, 0) h]
  simp [hk]
theorem CntO.free {w : World} {b : Nat} {F : Nat → Int} (h : CntO w b F) (k : Nat) : w.frozen? ⟨b, k, none⟩ = false := frozen_of_row w b k _ 31 h
theorem CntO.set {w : World} {b : Nat} {F G : Nat → Int} {v : Int} (h : CntO w b F) {k : Nat} (hk : k < 2048) (h1 : G k = v) (h2 : ∀ j, j < 2048 → j ≠ k → G j = F j) : CntO (w.setCell ⟨b, k, none⟩ (.int .i64 v)) b G := by
  unfold CntO
  rw [heap_setCell_same w b k _ 31 _ h]
  congr 2
  apply Array.ext'
  rw [Array.toList_setIfInBounds]
  apply List.ext_getElem?
  intro i
  rw [List.getElem?_set]
  by_cases e : k = i
  · subst e
    rw [if_pos rfl, if_pos (by simp [hk])]
    simp [hk, h1]
  · rw [if_neg e]
    by_cases hi : i < 2048
    · simp [hi, h2 i hi (fun x => e x.symm)]
    · simp [hi]
theorem zero_infoO : Tryd.t31.zero = some (.agg ((List.range 2048).map fun _ => Value.int .i64 0).toArray) := by kernel_rfl
theorem zero_valO : ∃ zs : Array Value, (∀ w, (zeroValue 31).run Tryd.prog w = .ok (.agg zs) w) ∧ zs.size = 2048 ∧ ¬ zs = #[] ∧ ∀ w : World, CntO (w.alloc (.cells zs 31)) w.heap.size (fun _ => 0) := by
  refine ⟨((List.range 2048).map fun _ => Value.int .i64 0).toArray, fun w => ?_, by simp, ?_, fun w => ?_⟩
  · simp only [zeroValue, Sem.run_bind, Tryd.typeInfo31, Result.andThen, zero_infoO]
    rfl
  · intro h
    have := congrArg Array.size h
    simp at this
  · exact heap_alloc_new w _
/-- Whose a word is, behind so many slots; and amid the next one's words. -/
def owF (l : List Slt) : Nat → Nat → Int
  | 0, _ => 0
  | i + 1, k => if (sg l i).live = true ∧ ((sg l i).pos ≤ (k : Int) ∧ (k : Int) < (sg l i).pos + nwZ (sg l i)) then (i : Int) + 1 else owF l i k
def owJ (l : List Slt) (i : Nat) (p j : Int) (k : Nat) : Int := if p ≤ (k : Int) ∧ (k : Int) < j then (i : Int) + 1 else owF l i k
theorem owJ_none (l : List Slt) (i : Nat) (p : Int) : owJ l i p p = owF l i := by
  funext k; unfold owJ; rw [if_neg (by omega)]
theorem owJ_here (l : List Slt) (i : Nat) (p : Int) (k : Nat) : owJ l i p (k : Int) k = owF l i k := by unfold owJ; rw [if_neg (by omega)]
theorem owJ_next (l : List Slt) (i : Nat) {p : Int} {k : Nat} (h : p ≤ (k : Int)) : owJ l i p ((k : Int) + 1) k = (i : Int) + 1 := by unfold owJ; rw [if_pos (by omega)]
theorem owJ_other (l : List Slt) (i : Nat) (p : Int) {k j : Nat} (h : j ≠ k) : owJ l i p ((k : Int) + 1) j = owJ l i p k j := by
  unfold owJ
  by_cases c : p ≤ (j : Int) ∧ (j : Int) < (k : Int)
  · rw [if_pos c, if_pos (by omega)]
  · rw [if_neg c, if_neg (by omega)]
theorem owJ_turn (l : List Slt) (i : Nat) (h : (sg l i).live = true) : owJ l i (sg l i).pos ((sg l i).pos + nwZ (sg l i)) = owF l (i + 1) := by
  funext k
  show _ = if (sg l i).live = true ∧ ((sg l i).pos ≤ (k : Int) ∧ (k : Int) < (sg l i).pos + nwZ (sg l i)) then (i : Int) + 1 else owF l i k
  unfold owJ
  by_cases c : (sg l i).pos ≤ (k : Int) ∧ (k : Int) < (sg l i).pos + nwZ (sg l i)
  · rw [if_pos c, if_pos ⟨h, c⟩]
  · rw [if_neg c, if_neg (fun e => c e.2)]
theorem owF_dead (l : List Slt) (i : Nat) (h : (sg l i).live = false) : owF l (i + 1) = owF l i := by
  funext k
  show (if (sg l i).live = true ∧ ((sg l i).pos ≤ (k : Int) ∧ (k : Int) < (sg l i).pos + nwZ (sg l i)) then (i : Int) + 1 else owF l i k) = owF l i k
  rw [if_neg (fun e => by rw [h] at e; cases e.1)]
/-- No slot ahead has a word of this one's. -/
theorem ow_zero {x : Stt} (h : SttR x) {i : Nat} (hi : i < x.sl.length) (hl : (sg x.sl i).live = true) {k : Nat} (hk : InW (sg x.sl i) k) : owF x.sl i k = 0 := by
  have key : ∀ j, j ≤ i → owF x.sl j k = 0 := by
    intro j
    induction j with
    | zero => intro _; rfl
    | succ j ih =>
      intro hj
      show (if (sg x.sl j).live = true ∧ ((sg x.sl j).pos ≤ (k : Int) ∧ (k : Int) < (sg x.sl j).pos + nwZ (sg x.sl j)) then (j : Int) + 1 else owF x.sl j k) = 0
      rw [if_neg]
      · exact ih (by omega)
      · rintro ⟨e1, e2⟩
        exact st_apart h (by omega) hi (by omega) e1 hl e2 hk
  exact key i (Nat.le_refl _)
end Go.Proofs.YtpbljjbhfhfmgaaDoor
