/- The code's way of laying a tree out, level by level from the leaves on, in plain words. -/
import Derived.Test.YthkloknongkpdaaMtB
import Derived.Test.YthkloknongkpdaaMtF
import Derived.Test.YthkloknongkpdaaMtA
namespace Go.Proofs.Ythkloknongkpdaa
set_option maxRecDepth 100000
set_option linter.unusedVariables false
set_option linter.unusedSimpArgs false

def spP (p : Int × Int) : Spn := ⟨p.1, p.2⟩
/-- A node's pairs, as the code holds them. -/
def psS (l : List Blk) (j i : Nat) : List Spn := (psN l j i).map spP
/-- All pairs of a level. -/
def lvP (l : List Blk) : Nat → List Spn
  | 0 => l.map (fun x => ⟨x.pos, 4 * x.sz + x.ix⟩)
  | j + 1 => (List.range (lvC l.length j)).map (fun i => ⟨(ba l (7 ^ (j + 1) * i)).pos, ((nmN l.length j + i : Nat) : Int)⟩)
theorem lvP_len (l : List Blk) (j : Nat) : (lvP l j).length = lvT l.length j := by
  cases j with
  | zero => simp [lvP, lvT]
  | succ j => simp [lvP, lvT]
theorem psS_len (l : List Blk) (j i : Nat) : (psS l j i).length = min 7 (lvT l.length j - 7 * i) := by unfold psS; rw [List.length_map, ps_len]
theorem lvP_cut {l : List Blk} {j : Nat} (i : Nat) (hj : j ≤ hgt l.length) : ((lvP l j).drop (7 * i)).take 7 = psS l j i := by
  cases j with
  | zero =>
    unfold psS
    simp only [lvP, psN]
    rw [List.map_map, ← List.map_drop, ← List.map_take]
    rfl
  | succ j =>
    unfold psS
    have e : nmN l.length j = lvB l.length (j + 1) := by unfold nmN; rw [if_neg (by omega)]
    apply List.ext_getElem?
    intro k
    rw [List.getElem?_take]
    by_cases hk : k < 7
    · rw [if_pos hk, List.getElem?_drop]
      simp only [lvP, psN, List.getElem?_map]
      by_cases h2 : 7 * i + k < lvC l.length j
      · rw [List.getElem?_range h2, List.getElem?_range (by omega)]
        simp only [Option.map_some, spP, e, Nat.add_assoc]
      · rw [List.getElem?_eq_none (by simp; omega), List.getElem?_eq_none (by simp; omega)]
        rfl
    · rw [if_neg hk, List.getElem?_eq_none]
      have := psN_le l (j + 1) i
      simp only [List.length_map]
      omega
theorem psS_at {l : List Blk} {j i k : Nat} (hj : j ≤ hgt l.length) (hk : k < (psS l j i).length) : pa (psS l j i) k = pa (lvP l j) (7 * i + k) := by
  have h := lvP_cut i hj
  have h7 : k < 7 := by rw [psS_len] at hk; omega
  rw [← h]
  simp only [pa, List.getD]
  rw [List.getElem?_take, if_pos h7, List.getElem?_drop]
/-- The first number of a node's first pair. -/
theorem psS_first {l : List Blk} {j i : Nat} (hn : 1 ≤ l.length) (hi : i < lvC l.length j) : 0 < (psS l j i).length ∧ (pa (psS l j i) 0).pos = (ba l (7 ^ (j + 1) * i)).pos := by
  have hl : 0 < (psN l j i).length := by
    rw [ps_len]
    cases j with
    | zero =>
      simp only [lvT, lvC, abv] at hi ⊢
      omega
    | succ j =>
      simp only [lvT, lvC, abv] at hi ⊢
      have : 1 ≤ lvC l.length j := by cases j <;> exact abv_pos _
      omega
  have h2 : (psS l j i).length = (psN l j i).length := by simp [psS]
  refine ⟨by omega, ?_⟩
  have e : pa (psS l j i) 0 = spP ((psN l j i).getD 0 (0, 0)) := by
    simp only [pa, psS, List.getD, List.getElem?_map, List.getElem?_eq_getElem hl, Option.map_some, Option.getD_some]
  rw [e]
  show ((psN l j i).getD 0 (0, 0)).1 = _
  rw [ps_key hl, Nat.add_zero, Nat.pow_succ, Nat.mul_assoc]
/-- The pairs above a level, one more. -/
theorem lvP_next {l : List Blk} {j k : Nat} (hk : k < lvC l.length j) : (lvP l (j + 1)).take (k + 1) = (lvP l (j + 1)).take k ++ [⟨(ba l (7 ^ (j + 1) * k)).pos, ((nmN l.length j + k : Nat) : Int)⟩] := by
  have hl : k < (lvP l (j + 1)).length := by rw [lvP_len]; exact hk
  rw [take_pa hl]
  congr 2
  simp only [pa, lvP, List.getD, List.getElem?_map, List.getElem?_range hk, Option.map_some, Option.getD_some]
theorem lvP_all (l : List Blk) (j : Nat) : (lvP l (j + 1)).take (lvC l.length j) = lvP l (j + 1) := List.take_of_length_le (by rw [lvP_len]; exact Nat.le_refl _)

theorem nm_top {n j : Nat} (h : j ≤ hgt n) : nmN n j = 0 ↔ j = hgt n := by
  unfold nmN
  by_cases c : j = hgt n
  · rw [if_pos c]; exact ⟨fun _ => c, fun _ => rfl⟩
  · rw [if_neg c]
    refine ⟨fun e => ?_, fun e => (c e).elim⟩
    unfold lvB at e
    split at e
    · split at e <;> omega
    · omega
/-- A level's nodes stand right ahead of those of the level below. -/
theorem nm_next {n j : Nat} (h : n ≤ 343) (hj : j + 1 ≤ hgt n) : nmN n (j + 1) + lvC n (j + 1) = nmN n j := by
  have ht := top_one h
  have h2 := hgt_le n
  unfold nmN lvB
  rcases (show hgt n = 1 ∧ j = 0 ∨ hgt n = 2 ∧ j = 0 ∨ hgt n = 2 ∧ j = 1 by omega) with ⟨e, rfl⟩ | ⟨e, rfl⟩ | ⟨e, rfl⟩
  · rw [e] at ht ⊢; simp [ht]
  · rw [e] at ht ⊢; simp
  · rw [e] at ht ⊢; simp [ht]
theorem nm_0 {n : Nat} (h : n ≤ 343) : nmN n 0 + lvC n 0 = ndS (abv n) := by
  have ht := top_one h
  have h2 := hgt_le n
  by_cases c : abv n ≤ 1
  · have e : hgt n = 0 := by unfold hgt; rw [if_pos c]
    rw [ndS_le c]
    unfold nmN
    rw [if_pos e.symm]
    simp [lvC]
  · rw [ndS_gt c]
    by_cases c2 : abv (abv n) ≤ 1
    · have e : hgt n = 1 := by unfold hgt; rw [if_neg c, if_pos c2]
      have p := abv_pos (abv n)
      rw [ndS_le c2]
      unfold nmN lvB
      rw [e]
      simp [lvC]
      omega
    · have e : hgt n = 2 := by unfold hgt; rw [if_neg c, if_neg c2]
      rw [e] at ht
      have ht : abv (abv (abv n)) = 1 := ht
      rw [ndS_gt c2, ht, ndS_le (by omega)]
      unfold nmN lvB
      rw [e]
      simp [lvC]
      omega
theorem nm_below {n : Nat} (h : n ≤ 343) : ∀ {j i : Nat}, i < j → j ≤ hgt n → nmN n j + lvC n j ≤ nmN n i := by
  intro j i hij
  induction j with
  | zero => omega
  | succ j ih =>
    intro hj
    rw [nm_next h hj]
    by_cases e : i = j
    · rw [e]; exact Nat.le_refl _
    · have := ih (by omega) (by omega)
      omega
/-- Each number is a node's of a level. -/
theorem nm_all {n : Nat} (h : n ≤ 343) {k : Nat} (hk : k < ndS (abv n)) : ∃ j i, j ≤ hgt n ∧ i < lvC n j ∧ k = nmN n j + i := by
  have h2 := hgt_le n
  have h0 := nm_0 h
  by_cases c0 : nmN n 0 ≤ k
  · exact ⟨0, k - nmN n 0, by omega, by omega, by omega⟩
  · have g1 : 0 ≠ hgt n := fun e => by have := (nm_top (n := n) (j := 0) (by omega)).2 e; omega
    have h1 := nm_next h (j := 0) (by omega)
    by_cases c1 : nmN n 1 ≤ k
    · exact ⟨1, k - nmN n 1, by omega, by simp only [Nat.zero_add] at h1; omega, by omega⟩
    · have g2 : 1 ≠ hgt n := fun e => by have := (nm_top (n := n) (j := 1) (by omega)).2 e; omega
      have h3 := nm_next h (j := 1) (by omega)
      have g3 : nmN n 2 = 0 := (nm_top (by omega)).2 (by omega)
      exact ⟨2, k, by omega, by simp only [Nat.reduceAdd] at h3; omega, by omega⟩
theorem nm_in {n : Nat} (h : n ≤ 343) {j i : Nat} (hj : j ≤ hgt n) (hi : i < lvC n j) : nmN n j + i < ndS (abv n) := by
  have h0 := nm_0 h
  by_cases c : j = 0
  · subst c; omega
  · have := nm_below h (j := j) (i := 0) (by omega) hj
    omega
/-- How the code counts. -/
theorem lv_wide (n j : Nat) : abv (lvT n j) = lvC n j := by cases j <;> rfl
theorem wide_abv (n : Nat) : (if n = 0 then 1 else (n - 1) / 7 + 1) = abv n := by unfold abv; split <;> omega
theorem none_top {n : Nat} (h : n = 0) : hgt n = 0 := by subst h; decide
end Go.Proofs.Ythkloknongkpdaa
