/- An array of 2048 counters: how many spans hold each word. -/
import Derived.Test.YtjmhgcopaphdiaaSmallGap
namespace Go.Proofs.Ytjmhgcopaphdiaa
set_option maxRecDepth 100000
open Go.RowKit
set_option linter.unusedVariables false
set_option linter.unusedSimpArgs false
set_option maxRecDepth 100000

/-- The block b holds 2048 numbers, F's. -/
def Cnt (w : World) (b : Nat) (F : Nat → Int) : Prop := w.heap[b]? = some (.cells ((List.range 2048).map fun k => Value.int .i64 (F k)).toArray 38 (0, 0))
theorem Cnt.lt {w : World} {b : Nat} {F : Nat → Int} (h : Cnt w b F) : b < w.heap.size := (Array.getElem?_eq_some_iff.1 h).1
theorem Cnt.kept {w w' : World} {b : Nat} {F : Nat → Int} (h : Cnt w b F) (hb : Below w.heap.size w w') : Cnt w' b F := (hb.block b h.lt).trans h
theorem Cnt.cell {w : World} {b : Nat} {F : Nat → Int} (h : Cnt w b F) {k : Nat} (hk : k < 2048) : w.cell? ⟨b, k, none⟩ = some (.int .i64 (F k)) := by
  rw [cell_of_row w b k _ 38 (0, 0) h]
  simp [hk]
theorem Cnt.free {w : World} {b : Nat} {F : Nat → Int} (h : Cnt w b F) (k : Nat) : w.frozen? ⟨b, k, none⟩ = false := frozen_of_row w b k _ 38 h
theorem Cnt.set {w : World} {b : Nat} {F G : Nat → Int} {v : Int} (h : Cnt w b F) {k : Nat} (hk : k < 2048) (h1 : G k = v) (h2 : ∀ j, j < 2048 → j ≠ k → G j = F j) : Cnt (w.setCell ⟨b, k, none⟩ (.int .i64 v)) b G := by
  unfold Cnt
  rw [heap_setCell_same w b k _ 38 _ h]
  congr 2
  apply Array.ext'
  rw [Array.toList_setIfInBounds]
  apply List.ext_getElem?
  intro i
  rw [List.getElem?_set]
  by_cases e : k = i
  · subst e
    rw [if_pos rfl, if_pos (by simp [hk])]
    simp [hk, h1]
  · rw [if_neg e]
    by_cases hi : i < 2048
    · simp [hi, h2 i hi (fun x => e x.symm)]
    · simp [hi]
/-- 'var owner [2048]int': its cells, under a letter. -/
theorem zero_info : Try.t38.zero = some (.agg ((List.range 2048).map fun _ => Value.int .i64 0).toArray) := by kernel_rfl
theorem zero_val : ∃ zs : Array Value, (∀ w, (zeroValue 38).run Try.prog w = .ok (.agg zs) w) ∧ zs.size = 2048 ∧ ¬ zs = #[] ∧ ∀ w : World, Cnt (w.alloc (.cells zs 38)) w.heap.size (fun _ => 0) := by
  refine ⟨((List.range 2048).map fun _ => Value.int .i64 0).toArray, fun w => ?_, by simp, ?_, fun w => ?_⟩
  · simp only [zeroValue, Sem.run_bind, Try.typeInfo38, Result.andThen, zero_info]
    rfl
  · intro h
    have := congrArg Array.size h
    simp at this
  · exact heap_alloc_new w _
/-- Each word's count: A's, and one more from p to j. -/
def cvN (A : List Spn) (p j : Int) (k : Nat) : Int := (cov A (k : Int) : Int) + (if p ≤ (k : Int) ∧ (k : Int) < j then 1 else 0)
theorem cv_none (A : List Spn) (p : Int) (k : Nat) : cvN A p p k = cov A k := by
  unfold cvN
  rw [if_neg (by omega)]; omega
theorem cv_here (A : List Spn) (p : Int) (k : Nat) : cvN A p (k : Int) k = cov A k := by
  unfold cvN
  rw [if_neg (by omega)]; omega
theorem cv_next (A : List Spn) {p : Int} {k : Nat} (h : p ≤ (k : Int)) : cvN A p ((k : Int) + 1) k = cov A k + 1 := by
  unfold cvN
  rw [if_pos (by omega)]
theorem cv_other (A : List Spn) (p : Int) {k j : Nat} (h : j ≠ k) : cvN A p ((k : Int) + 1) j = cvN A p k j := by
  unfold cvN
  by_cases c : p ≤ (j : Int) ∧ (j : Int) < (k : Int)
  · rw [if_pos c, if_pos (by omega)]
  · rw [if_neg c, if_neg (by omega)]
theorem cv_turn (A : List Spn) (s : Spn) (q : Int) : cvN A s.pos s.fin = cvN (A ++ [s]) q q := by
  funext k
  rw [cv_none, cov_append, cvN]
  have : cov [s] (k : Int) = if s.pos ≤ (k : Int) ∧ (k : Int) < s.fin then 1 else 0 := by rw [cov_cons]; simp [cov]
  rw [this]
  by_cases c : s.pos ≤ (k : Int) ∧ (k : Int) < s.fin
  · rw [if_pos c, if_pos c]; omega
  · rw [if_neg c, if_neg c]; omega
theorem cv_zero (p : Int) : cvN [] p p = fun _ => 0 := by
  funext k; rw [cv_none]; rfl
theorem cov_le (A : List Spn) (k : Int) : cov A k ≤ A.length := List.countP_le_length
theorem Cnt.step {w : World} {b : Nat} {A : List Spn} {p : Int} {k : Nat} (h : Cnt w b (cvN A p k)) (hk : k < 2048) (hp : p ≤ (k : Int)) : Cnt (w.setCell ⟨b, k, none⟩ (.int .i64 ((cov A k : Int) + 1))) b (cvN A p ((k : Int) + 1)) :=
  h.set hk (cv_next A hp) (fun j _ hj => cv_other A p hj)
end Go.Proofs.Ytjmhgcopaphdiaa
