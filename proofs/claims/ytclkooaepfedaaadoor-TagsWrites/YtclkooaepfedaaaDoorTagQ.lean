/- Lent rows and one more, handed to joistlaw01.Owned. -/
import Derived.Test.YtclkooaepfedaaaDoorTagP
namespace Go.Proofs.YtclkooaepfedaaaDoor
set_option maxRecDepth 100000
open Go.RowKit
set_option linter.unusedVariables false
set_option linter.unusedSimpArgs false
set_option maxRecDepth 100000

/-- Rows, each in a block of its own, in a row of the call's own. -/
theorem owned_rows {w : World} {B : Nat} {ro : Option Addr} {L cc : Nat} {vs : List Value} {A : Nat → Option Addr} {N C G : Nat → Nat} (hL0 : 0 < L) (hL : L ≤ 200) (hown : w.ownsRow B 26 1 (.slice ro L cc) L vs)
    (hvs : ∀ i, i < L → vs[i]? = some (.slice (A i) (N i) (C i))) (hr : ∀ i, i < L → Rowd w B (A i) (N i) (C i) (G i)) (hd : ∀ i j, i < j → j < L → 0 < C i → 0 < C j → G i ≠ G j) (hB : B ≤ w.heap.size) :
    Calls Tryd.prog 15 #[.slice ro L cc] w fun e w' => e = .returned (.bool true) ∧ Below B w w' := by
  obtain ⟨R, c1, e1⟩ := own_shape hown hL0
  simp only [Value.slice.injEq, true_and] at e1
  obtain ⟨rfl, rfl⟩ := e1
  have hcc : L ≤ cc ∧ cc ≤ 9223372036854775807 := by
    rcases hown.2 with ⟨hv, hn⟩ | ⟨g', cap', cur, hv, hg, hh, hc, hm, _⟩
    · cases hv
    · simp only [Value.slice.injEq] at hv
      obtain ⟨_, _, rfl⟩ := hv
      exact ⟨hc, by unfold maxLen at hm; omega⟩
  have hS : Rws B L A N C G ∧ Stage w R L A N C G 0 0 := by
    refine ⟨⟨fun i hi => (hr i hi).fits, fun i hi hc => ⟨((hr i hi).spot hc).1, ((hr i hi).spot hc).2.1⟩, fun i j hi hj hne h1 h2 => ?_⟩, fun j hj => ?_, fun j hj hc => ?_, fun j hj hc => ?_⟩
    · rcases Nat.lt_or_gt_of_ne hne with h | h
      · exact hd i j h hj h1 h2
      · exact (hd j i h hi h2 h1).symm
    · rw [hown.cellAt j (by omega)]
      exact hvs j hj
    · obtain ⟨cur, hg', hs⟩ := (hr j hj).fill hc
      refine ⟨cur, hg', hs, fun t ht => ?_⟩
      split at ht <;> first | omega | (split at ht <;> omega)
    · obtain ⟨cur, hg', hs⟩ := (hr j hj).fill hc
      exact rows_far hown rfl hg'
  exact (owned_cap (F := fun k => B ≤ k) R B L A N C G w hS.1 hS.2 hL cc hcc.1 hcc.2 (fun i hi hc => (hS.1.spot i hi hc).2)).mono fun _ _ ⟨h, k, _⟩ => ⟨h, k.below (fun _ h => h) hB⟩
theorem owned_lent {w : World} {B : Nat} {ro : Option Addr} {k cc : Nat} {N G : Nat → Nat} {ds : List (List Int)} {bo : Option Addr} {n c gb : Nat} (hk : k ≤ 100) (hown : w.ownsRow B 26 1 (.slice ro (k + 1) cc) (k + 1) (rowsV N G k ++ [.slice bo n c]))
    (hl : ∀ i, i < k → Lentd w (G i) (da ds i)) (hup : ∀ i, i < k → B ≤ G i) (hap : ∀ i j, i < j → j < k → G i ≠ G j) (hN : ∀ i, i < k → (da ds i).length = N i) (hN2 : ∀ i, i < k → N i ≤ 4096) (hr : Rowd w B bo n c gb) (hd : ∀ i, i < k → 0 < c → G i ≠ gb) (hB : B ≤ w.heap.size) :
    Calls Tryd.prog 15 #[.slice ro (k + 1) cc] w fun e w' => e = .returned (.bool true) ∧ Below B w w' := by
  refine owned_rows (A := upd (fun i => some ⟨G i, 0, none⟩) k bo) (N := upd N k n) (C := upd (fun i => N i + 1) k c) (G := upd G k gb) (by omega) (by omega) hown (fun i hi => ?_) (fun i hi => ?_) (fun i j hij hj h1 h2 => ?_) hB
  · by_cases e : i = k
    · subst e
      rw [upd_same, upd_same, upd_same, List.getElem?_append_right (by rw [rowsV_len]; omega), rowsV_len]
      simp
    · rw [upd_other _ _ _ e, upd_other _ _ _ e, upd_other _ _ _ e, List.getElem?_append_left (by rw [rowsV_len]; omega), rowsV_at (by omega)]
      rfl
  · by_cases e : i = k
    · subst e
      rw [upd_same, upd_same, upd_same, upd_same]
      exact hr
    · rw [upd_other _ _ _ e, upd_other _ _ _ e, upd_other _ _ _ e, upd_other _ _ _ e]
      exact ((hl i (by omega)).rowd (hN i (by omega)) (by have := hN2 i (by omega); omega)).mono (hup i (by omega))
  · by_cases e : j = k
    · subst e
      rw [upd_same] at h2
      rw [upd_same, upd_other _ _ _ (by omega)]
      exact hd i hij h2
    · rw [upd_other _ _ _ e, upd_other _ _ _ (by omega)]
      exact hap i j hij (by omega)
theorem LnD.cells {B : Nat} {w : World} {ao : Option Addr} {k cap : Nat} {N G : Nat → Nat} {ds : List (List Int)} (h : LnD B w ao k cap N G ds) : (∀ ad, ao = some ad → ∀ j u, (rowsV N G k)[j]? = some u → w.cell? (ad.add j) = some u) ∧ (ao = none → k = 0 ∧ cap = 0) := by
  refine ⟨fun ad e j u hu => ?_, fun e => ?_⟩
  · have hj : j < k := by
      have := (List.getElem?_eq_some_iff.1 hu).1
      rwa [rowsV_len] at this
    obtain ⟨g, hg⟩ := h.shape (by omega)
    have h1 := h.row
    rw [hg] at h1
    rw [e] at hg
    cases hg
    rw [Addr.add_lit, Nat.zero_add, h1.cellAt j (by omega)]
    exact hu
  · rcases h.row.2 with ⟨hv, hn⟩ | ⟨g', cap', cur, hv, _⟩
    · simp only [Value.slice.injEq] at hv
      exact ⟨hn, hv.2.2⟩
    · rw [e] at hv
      simp at hv
/-- One row more behind rows of the call's own. -/
theorem one_cell {w : World} (v : Value) : ∀ ad, some (⟨w.heap.size, 0, none⟩ : Addr) = some ad → ∀ j u, [v][j]? = some u → (w.alloc (.cells #[v] 26)).cell? (ad.add j) = some u := by
  intro ad e j u hu
  cases e
  match j, hu with
  | 0, hu => simp at hu; subst hu; simp [Addr.add_lit, cell_of_row _ w.heap.size 0 _ 26 (0, 0) (heap_alloc_new _ _)]
  | j + 1, hu => simp at hu
end Go.Proofs.YtclkooaepfedaaaDoor
