/- Rows of free pages counted, in plain words. -/
import Derived.Test.YtlghhhhgfnnjgabDoorRunM
namespace Go.Proofs.YtlghhhhgfnnjgabDoor
set_option maxRecDepth 100000
set_option linter.unusedVariables false
set_option linter.unusedSimpArgs false

/-- The free ones of the first k. -/
def fcN (ks : List Int) : Nat → Nat
  | 0 => 0
  | k + 1 => fcN ks k + (if ka ks k = -1 then 1 else 0)
theorem fc_free {ks : List Int} {k : Nat} (h : ka ks k = -1) : fcN ks (k + 1) = fcN ks k + 1 := by
  show fcN ks k + (if ka ks k = -1 then 1 else 0) = _
  rw [if_pos h]
theorem fc_not {ks : List Int} {k : Nat} (h : ka ks k ≠ -1) : fcN ks (k + 1) = fcN ks k := by
  show fcN ks k + (if ka ks k = -1 then 1 else 0) = _
  rw [if_neg h]; rfl
theorem fc_le (ks : List Int) : ∀ k, fcN ks k ≤ k := by
  intro k
  induction k with
  | zero => exact Nat.le_refl _
  | succ k ih =>
    by_cases h : ka ks k = -1
    · rw [fc_free h]; omega
    · rw [fc_not h]; omega
theorem fc_run {ks : List Int} {k : Nat} : ∀ {m : Nat}, (∀ j, j < m → ka ks (k + j) = -1) → fcN ks (k + m) = fcN ks k + m := by
  intro m
  induction m with
  | zero => intro _; rfl
  | succ m ih =>
    intro h
    rw [show k + (m + 1) = k + m + 1 by omega, fc_free (h m (by omega)), ih (fun j hj => h j (by omega))]
    omega
theorem fc_past {ks : List Int} : ∀ {m : Nat}, fcN ks (ks.length + m) = fcN ks ks.length := by
  intro m
  induction m with
  | zero => rfl
  | succ m ih =>
    rw [show ks.length + (m + 1) = ks.length + m + 1 by omega, fc_not (by rw [ka_past (by omega)]; omega), ih]
/-- The sizes of the first i. -/
def suN (l : List Spn) : Nat → Int
  | 0 => 0
  | i + 1 => suN l i + (pa l i).sz
theorem su_pre (a b : List Spn) : ∀ i, i ≤ a.length → suN (a ++ b) i = suN a i := by
  intro i
  induction i with
  | zero => intro _; rfl
  | succ i ih =>
    intro h
    show suN (a ++ b) i + (pa (a ++ b) i).sz = suN a i + (pa a i).sz
    have e : pa (a ++ b) i = pa a i := by simp [pa, List.getD, List.getElem?_append_left (show i < a.length by omega)]
    rw [ih (by omega), e]
theorem su_snoc (a : List Spn) (s : Spn) : suN (a ++ [s]) (a.length + 1) = suN a a.length + s.sz := by
  show suN (a ++ [s]) a.length + (pa (a ++ [s]) a.length).sz = _
  have e : pa (a ++ [s]) a.length = s := by simp [pa, List.getD]
  rw [su_pre a [s] a.length (Nat.le_refl _), e]
/-- Rows and free ones are as many. -/
theorem runs_all {ks : List Int} : ∀ (m k : Nat), ks.length + 1 - k ≤ m → k ≤ ks.length + 1 → (k = 0 ∨ ka ks (k - 1) ≠ -1) → suN (rnK ks k) (rnK ks k).length = fcN ks k → suN (rnL ks) (rnL ks).length = fcN ks ks.length := by
  intro m
  induction m with
  | zero =>
    intro k h1 h2 h3 h4
    have hk : k = ks.length + 1 := by omega
    subst hk
    rw [rn_past (by omega), fc_past (m := 1)] at h4
    exact h4
  | succ m ih =>
    intro k h1 h2 h3 h4
    by_cases hk : ks.length ≤ k
    · obtain ⟨t, rfl⟩ : ∃ t, k = ks.length + t := ⟨k - ks.length, by omega⟩
      rw [rn_past (by omega), fc_past] at h4
      exact h4
    · by_cases hf : ka ks k = -1
      · have hst : StR ks k := ⟨hf, h3⟩
        have hl := rl_le (ks := ks) (i := k) (by omega)
        have hend := rl_end (ks := ks) (i := k) (n := rlN ks k) rfl
        refine ih (k + rlN ks k + 1) (by omega) (by omega) (Or.inr (by rw [show k + rlN ks k + 1 - 1 = k + rlN ks k by omega]; exact hend)) ?_
        rw [rn_over hst, List.length_append, List.length_singleton, su_snoc, h4, fc_not hend, fc_run (fun j hj => rl_in hj)]
        show (fcN ks k : Int) + (rlN ks k : Nat) = ((fcN ks k + rlN ks k : Nat) : Int)
        omega
      · refine ih (k + 1) (by omega) (by omega) (Or.inr (by simpa using hf)) ?_
        rw [rn_skip (fun hs => hf hs.1), fc_not hf]
        exact h4
theorem runs_count (ks : List Int) : suN (rnL ks) (rnL ks).length = fcN ks ks.length := runs_all (ks.length + 1) 0 (by omega) (by omega) (Or.inl rfl) rfl
theorem su_nn {ks : List Int} (hl : ks.length ≤ 4294967296) : ∀ i, i ≤ (rnL ks).length → 0 ≤ suN (rnL ks) i ∧ suN (rnL ks) i ≤ suN (rnL ks) (rnL ks).length := by
  have step : ∀ i, i < (rnL ks).length → suN (rnL ks) i ≤ suN (rnL ks) (i + 1) := fun i hi => by
    have := (rn_rg (k := ks.length) hl _ (pa_mem (l := rnL ks) hi)).2.1
    show suN (rnL ks) i ≤ suN (rnL ks) i + (pa (rnL ks) i).sz
    omega
  intro i hi
  constructor
  · induction i with
    | zero => exact Int.le_refl _
    | succ i ih =>
      have := ih (by omega)
      have := step i (by omega)
      omega
  · obtain ⟨d, hd⟩ : ∃ d, i + d = (rnL ks).length := ⟨(rnL ks).length - i, by omega⟩
    clear hi
    induction d generalizing i with
    | zero => rw [Nat.add_zero] at hd; rw [hd]; exact Int.le_refl _
    | succ d ih =>
      have h1 := ih (i := i + 1) (by omega)
      have h2 := step i (by omega)
      omega
end Go.Proofs.YtlghhhhgfnnjgabDoor
