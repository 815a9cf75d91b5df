/- A tree's nodes by their bytes, and the way down, in plain words. -/
import Derived.Test.YthkloknongkpdaaMtB
import Derived.Test.YthkloknongkpdaaMtF
namespace Go.Proofs.Ythkloknongkpdaa
set_option maxRecDepth 100000
set_option linter.unusedVariables false
set_option linter.unusedSimpArgs false

/-- The bytes of one node of a tree. -/
theorem node_bytes {l : List Blk} {room j i : Nat} (hl : l.length ≤ 343) (hj : j ≤ hgt l.length) (hi : i < lvC l.length j) : ((ofL (trW room l)).drop (128 * (nmN l.length j + i))).take 128 = ofL (ndW l j i) := by
  obtain ⟨h1, h2⟩ := tr_at hl hj hi
  obtain ⟨k, hk⟩ : ∃ k, nmN l.length j + i = k := ⟨_, rfl⟩
  rw [hk] at h1 h2 ⊢
  have e1 : trL l = (trL l).take k ++ (ndW l j i :: (trL l).drop (k + 1)) := by
    rw [← h2]
    have : (trL l).getD k [] = (trL l)[k] := by simp [List.getD, h1]
    rw [this, ← List.drop_eq_getElem_cons h1, List.take_append_drop]
  have e2 : trW room l = ((trL l).take k).flatten ++ (ndW l j i ++ (((trL l).drop (k + 1)).flatten ++ List.replicate (16 * (room - (trL l).length)) 0)) := by
    unfold trW
    conv => lhs; rw [e1]
    simp only [List.flatten_append, List.flatten_cons, List.append_assoc]
    congr 4
    rw [← e1]
  have e3 : (((trL l).take k).flatten).length = 16 * k := by
    rw [flat16_len (fun w hw => trL_all l w (List.mem_of_mem_take hw)), List.length_take]
    omega
  rw [e2, ofL_append, ofL_append, List.drop_left' (by rw [ofL_length, e3]; omega), List.take_left' (by rw [ofL_length, ndW_len])]
/-- A node's words on the way down. -/
theorem way_words {l : List Blk} {e : Nat} (he : e < l.length) (hl : l.length ≤ 64) (j : Nat) : ∃ c : Nat, 1 ≤ c ∧ c ≤ 7 ∧ wyK e j < c ∧ (psN l j (wyN e j)).length = c ∧ (ndW l j (wyN e j)).getD 0 0 = 2 * (c : Int) + (if j = 0 then 1 else 0) ∧
    (∀ t, t < c → (ndW l j (wyN e j)).getD (1 + 2 * t) 0 = ((psN l j (wyN e j)).getD t (0, 0)).1 ∧ (ndW l j (wyN e j)).getD (2 + 2 * t) 0 = ((psN l j (wyN e j)).getD t (0, 0)).2) := by
  obtain ⟨h1, h2⟩ := wy_pair he j
  refine ⟨_, by omega, psN_le l j (wyN e j), h1, rfl, ?_, fun t ht => ?_⟩
  · unfold ndW
    rw [nwL_head]
    by_cases c : j = 0 <;> simp [c]
  · unfold ndW
    exact nwL_pair _ _ ht
/-- Where the way goes on. -/
def atK (K t : Nat) : Nat := if t = 0 then 0 else min (t - 1) K
theorem atK_next {K t : Nat} : atK K (t + 1) = if t ≤ K then t else atK K t := by
  unfold atK
  by_cases h : t ≤ K
  · rw [if_pos h, if_neg (by omega)]; omega
  · rw [if_neg h, if_neg (by omega)]
    by_cases c : t = 0
    · subst c; omega
    · rw [if_neg c]; omega
theorem atK_all {K c : Nat} (h : K < c) : atK K c = K := by unfold atK; rw [if_neg (by omega)]; omega
theorem way_next {l : List Blk} {e : Nat} (he : e < l.length) (hl : l.length ≤ 64) {j : Nat} (hj : j + 1 ≤ hgt l.length) : lvB l.length (j + 1) + wyN e j = nmN l.length j + wyN e j := by
  unfold nmN
  rw [if_neg (by omega)]
theorem way_in {n e : Nat} (he : e < n) (j : Nat) : wyN e j < lvC n j := lv_has he j
theorem way_top {n e : Nat} (he : e < n) (hn : n ≤ 343) : nmN n (hgt n) + wyN e (hgt n) = 0 := by
  have h1 := way_in he (hgt n)
  rw [top_one hn] at h1
  unfold nmN
  rw [if_pos rfl]
  omega
end Go.Proofs.Ythkloknongkpdaa
