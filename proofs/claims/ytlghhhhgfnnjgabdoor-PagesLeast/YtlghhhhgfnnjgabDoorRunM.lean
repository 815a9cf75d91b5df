/- Rows of free pages in plain words, and the one that fits best. -/
import Derived.Test.YtlghhhhgfnnjgabDoorPagM
namespace Go.Proofs.YtlghhhhgfnnjgabDoor
set_option maxRecDepth 100000
set_option linter.unusedVariables false
set_option linter.unusedSimpArgs false

/-- The kind at a place (0 beyond the end: not free). -/
def ka (ks : List Int) (i : Nat) : Int := ks.getD i 0
/-- How many free ones stand from a place on. -/
def rlN (ks : List Int) (i : Nat) : Nat := ((ks.drop i).takeWhile (fun k => k == -1)).length
theorem ka_past {ks : List Int} {i : Nat} (h : ks.length ≤ i) : ka ks i = 0 := by simp [ka, List.getD, List.getElem?_eq_none h]
theorem ka_lt {ks : List Int} {i : Nat} (h : ka ks i = -1) : i < ks.length := by
  apply Decidable.byContradiction
  intro hn
  rw [ka_past (by omega)] at h
  omega
theorem drop_ka {ks : List Int} {i : Nat} (h : i < ks.length) : ks.drop i = ka ks i :: ks.drop (i + 1) := by
  rw [List.drop_eq_getElem_cons h]
  simp [ka, List.getD, h]
theorem rl_free {ks : List Int} {i : Nat} (h : ka ks i = -1) : rlN ks i = rlN ks (i + 1) + 1 := by
  unfold rlN
  rw [drop_ka (ka_lt h), h]
  simp
theorem rl_not {ks : List Int} {i : Nat} (h : ka ks i ≠ -1) : rlN ks i = 0 := by
  unfold rlN
  by_cases hl : i < ks.length
  · rw [drop_ka hl, List.takeWhile_cons_of_neg (by simpa using h)]
    rfl
  · rw [List.drop_eq_nil_of_le (by omega)]
    rfl
theorem rl_in {ks : List Int} : ∀ {j i : Nat}, j < rlN ks i → ka ks (i + j) = -1 := by
  intro j
  induction j with
  | zero =>
    intro i h
    apply Decidable.byContradiction
    intro hn
    rw [Nat.add_zero] at hn
    rw [rl_not hn] at h
    omega
  | succ j ih =>
    intro i h
    by_cases h0 : ka ks i = -1
    · rw [rl_free h0] at h
      have := ih (i := i + 1) (by omega)
      rw [show i + (j + 1) = i + 1 + j by omega]
      exact this
    · rw [rl_not h0] at h; omega
theorem rl_end {ks : List Int} : ∀ {n i : Nat}, rlN ks i = n → ka ks (i + n) ≠ -1 := by
  intro n
  induction n with
  | zero =>
    intro i h e
    rw [Nat.add_zero] at e
    rw [rl_free e] at h
    omega
  | succ n ih =>
    intro i h
    have h0 : ka ks i = -1 := by
      have := rl_in (ks := ks) (j := 0) (i := i) (by omega)
      exact this
    rw [rl_free h0] at h
    have := ih (i := i + 1) (by omega)
    rw [show i + (n + 1) = i + 1 + n by omega]
    exact this
theorem rl_le {ks : List Int} {i : Nat} (h : i ≤ ks.length) : i + rlN ks i ≤ ks.length := by
  unfold rlN
  have h1 : ((ks.drop i).takeWhile (fun k => k == -1)).length ≤ (ks.drop i).length := (List.takeWhile_sublist _).length_le
  rw [List.length_drop] at h1
  omega
/-- A row of n free ones from i on, and no more, has n. -/
theorem rl_eq {ks : List Int} {i n : Nat} (h : ∀ j, j < n → ka ks (i + j) = -1) (he : ka ks (i + n) ≠ -1) : rlN ks i = n := by
  rcases Nat.lt_trichotomy (rlN ks i) n with h1 | h1 | h1
  · exact (rl_end (n := rlN ks i) rfl (h _ h1)).elim
  · exact h1
  · exact (he (rl_in h1)).elim
/-- Does a longest row begin there? -/
def StR (ks : List Int) (i : Nat) : Prop := ka ks i = -1 ∧ (i = 0 ∨ ka ks (i - 1) ≠ -1)
instance (ks : List Int) (i : Nat) : Decidable (StR ks i) := by unfold StR; exact inferInstance
def rowF (ks : List Int) (i : Nat) : Spn := ⟨i, rlN ks i⟩
/-- The longest rows that begin below k. -/
def rnK (ks : List Int) (k : Nat) : List Spn := ((List.range k).filter (fun i => decide (StR ks i))).map (rowF ks)
def rnL (ks : List Int) : List Spn := rnK ks ks.length
theorem rn_zero (ks : List Int) : rnK ks 0 = [] := rfl
theorem rn_at {ks : List Int} {k : Nat} (h : StR ks k) : rnK ks (k + 1) = rnK ks k ++ [⟨k, rlN ks k⟩] := by
  unfold rnK
  rw [List.range_succ, List.filter_append, List.filter_cons_of_pos (by simpa using h)]
  simp [rowF]
theorem rn_skip {ks : List Int} {k : Nat} (h : ¬ StR ks k) : rnK ks (k + 1) = rnK ks k := by
  unfold rnK
  rw [List.range_succ, List.filter_append, List.filter_cons_of_neg (by simpa using h)]
  simp
theorem rn_skips {ks : List Int} {k : Nat} : ∀ {m : Nat}, (∀ i, k ≤ i → i < k + m → ¬ StR ks i) → rnK ks (k + m) = rnK ks k := by
  intro m
  induction m with
  | zero => intro _; rfl
  | succ m ih =>
    intro h
    rw [show k + (m + 1) = (k + m) + 1 by omega, rn_skip (h (k + m) (by omega) (by omega))]
    exact ih (fun i h1 h2 => h i h1 (by omega))
/-- Behind a row, and the page that ends it. -/
theorem rn_over {ks : List Int} {k : Nat} (h : StR ks k) : rnK ks (k + rlN ks k + 1) = rnK ks k ++ [⟨k, rlN ks k⟩] := by
  have h1 : 1 ≤ rlN ks k := by rw [rl_free h.1]; omega
  rw [← rn_at h, show k + rlN ks k + 1 = (k + 1) + rlN ks k by omega]
  refine rn_skips (fun i h2 h3 => ?_)
  rintro ⟨a, b⟩
  rcases b with b | b
  · omega
  · refine b ?_
    have := rl_in (ks := ks) (i := k) (j := i - 1 - k) (by
      by_cases hh : i = k + rlN ks k
      · exact (rl_end rfl (hh ▸ a)).elim
      · omega)
    rw [show k + (i - 1 - k) = i - 1 by omega] at this
    exact this
theorem rn_past {ks : List Int} {k : Nat} (h : ks.length ≤ k) : rnK ks k = rnL ks := by
  obtain ⟨m, rfl⟩ : ∃ m, k = ks.length + m := ⟨k - ks.length, by omega⟩
  exact rn_skips (fun i h1 h2 hs => by have := ka_lt hs.1; omega)
theorem rn_mem {ks : List Int} {k : Nat} {s : Spn} : s ∈ rnK ks k ↔ ∃ i, i < k ∧ StR ks i ∧ s = ⟨i, rlN ks i⟩ := by
  unfold rnK
  simp only [List.mem_map, List.mem_filter, List.mem_range, decide_eq_true_eq]
  constructor
  · rintro ⟨i, ⟨h1, h2⟩, rfl⟩; exact ⟨i, h1, h2, rfl⟩
  · rintro ⟨i, h1, h2, rfl⟩; exact ⟨i, ⟨h1, h2⟩, rfl⟩
theorem rn_len (ks : List Int) (k : Nat) : (rnK ks k).length ≤ k := by
  unfold rnK
  rw [List.length_map]
  exact Nat.le_trans (List.length_filter_le _ _) (by simp)
theorem rn_rise (ks : List Int) (k : Nat) : (rnK ks k).Pairwise (fun a b => a.pos < b.pos) := by
  unfold rnK
  rw [List.pairwise_map]
  refine List.Pairwise.imp ?_ ((List.pairwise_lt_range (n := k)).filter _)
  intro a b h
  show (a : Int) < (b : Int)
  omega
theorem rn_order {ks : List Int} {k i j : Nat} (hi : i < j) (hj : j < (rnK ks k).length) : (pa (rnK ks k) i).pos < (pa (rnK ks k) j).pos := by
  have h := List.pairwise_iff_getElem.1 (rn_rise ks k) i j (by omega) hj hi
  simpa [pa, List.getD, hj, Nat.lt_trans hi hj] using h
theorem rn_same {ks : List Int} {k i j : Nat} (hi : i < (rnK ks k).length) (hj : j < (rnK ks k).length) (he : (pa (rnK ks k) i).pos = (pa (rnK ks k) j).pos) : i = j := by
  rcases Nat.lt_trichotomy i j with h | h | h
  · have := rn_order h hj; omega
  · exact h
  · have := rn_order h hi; omega
/-- Each free page lies in a row. -/
theorem rn_cover {ks : List Int} : ∀ {i : Nat}, ka ks i = -1 → ∃ j, j ≤ i ∧ StR ks j ∧ i < j + rlN ks j := by
  intro i
  induction i with
  | zero => intro h; exact ⟨0, Nat.le_refl _, ⟨h, Or.inl rfl⟩, by rw [rl_free h]; omega⟩
  | succ i ih =>
    intro h
    by_cases hp : ka ks i = -1
    · obtain ⟨j, h1, h2, h3⟩ := ih hp
      refine ⟨j, by omega, h2, ?_⟩
      apply Decidable.byContradiction
      intro hn
      have e := rl_end (ks := ks) (i := j) (n := rlN ks j) rfl
      rw [show j + rlN ks j = i + 1 by omega] at e
      exact e h
    · exact ⟨i + 1, Nat.le_refl _, ⟨h, Or.inr (by simpa using hp)⟩, by rw [rl_free h]; omega⟩
/-- Free ones side by side lie in one row. -/
theorem rn_hold {ks : List Int} {i m : Nat} (hm : 1 ≤ m) (h : ∀ j, j < m → ka ks (i + j) = -1) : ∃ s ∈ rnL ks, s.pos ≤ i ∧ (i : Int) + m ≤ s.pos + s.sz := by
  obtain ⟨j, h1, h2, h3⟩ := rn_cover (h 0 (by omega))
  rw [Nat.add_zero] at h3 h1
  refine ⟨⟨j, rlN ks j⟩, rn_mem.2 ⟨j, by have := ka_lt h2.1; omega, h2, rfl⟩, by show (j : Int) ≤ i; omega, ?_⟩
  show (i : Int) + m ≤ (j : Int) + (rlN ks j : Nat)
  apply Decidable.byContradiction
  intro hn
  have e := rl_end (ks := ks) (i := j) (n := rlN ks j) rfl
  have := h (j + rlN ks j - i) (by omega)
  rw [show i + (j + rlN ks j - i) = j + rlN ks j by omega] at this
  exact e this
theorem rn_rg {ks : List Int} {k : Nat} (hl : ks.length ≤ 4294967296) : ∀ s ∈ rnK ks k, 0 ≤ s.pos ∧ 1 ≤ s.sz ∧ s.pos + s.sz ≤ ks.length := by
  intro s hs
  obtain ⟨i, h1, h2, rfl⟩ := rn_mem.1 hs
  have h3 := ka_lt h2.1
  have h4 := rl_le (ks := ks) (i := i) (by omega)
  have h5 := rl_free h2.1
  refine ⟨by show (0 : Int) ≤ (i : Nat); omega, by show (1 : Int) ≤ (rlN ks i : Nat); omega, by show (i : Int) + (rlN ks i : Nat) ≤ _; omega⟩
/-- The free ones of a row. -/
theorem rn_free {ks : List Int} {k : Nat} {s : Spn} (h : s ∈ rnK ks k) {p : Int} (h1 : s.pos ≤ p) (h2 : p < s.pos + s.sz) : ka ks p.toNat = -1 := by
  obtain ⟨i, _, h3, rfl⟩ := rn_mem.1 h
  have h1' : (i : Int) ≤ p := h1
  have h2' : p < (i : Int) + (rlN ks i : Nat) := h2
  have := rl_in (ks := ks) (i := i) (j := p.toNat - i) (by omega)
  rwa [show i + (p.toNat - i) = p.toNat by omega] at this
/-- Of rows of n at least the one with the fewest, of alike ones the first. -/
def btO (ks : List Int) (n : Int) : Option Spn := if 1 ≤ n then bsO (rnL ks) n else none
def btN (ks : List Int) (n : Int) : Int := ((btO ks n).getD Spn.z).pos
def btB (ks : List Int) (n : Int) : Bool := (btO ks n).isSome
theorem bt_f {ks : List Int} {n : Int} (h : btO ks n = none) : btN ks n = 0 ∧ btB ks n = false := by
  unfold btN btB
  rw [h]
  exact ⟨rfl, rfl⟩
theorem bt_t {ks : List Int} {n : Int} {s : Spn} (h : btO ks n = some s) : btN ks n = s.pos ∧ btB ks n = true := by
  unfold btN btB
  rw [h]
  exact ⟨rfl, rfl⟩
theorem bt_small {ks : List Int} {n : Int} (h : n < 1) : btO ks n = none := if_neg (by omega)
theorem bt_none {ks : List Int} {n : Int} (h : btO ks n = none) (hn : 1 ≤ n) : ∀ s ∈ rnL ks, s.sz < n := by
  unfold btO at h
  rw [if_pos hn] at h
  intro s hs
  obtain ⟨i, hi, rfl⟩ := mem_pa hs
  exact bs_none h i hi
theorem bt_some {ks : List Int} {n : Int} {s : Spn} (h : btO ks n = some s) : 1 ≤ n ∧ s ∈ rnL ks ∧ n ≤ s.sz ∧ ∀ r ∈ rnL ks, n ≤ r.sz → ¬ BtrP r s := by
  unfold btO at h
  by_cases hn : 1 ≤ n
  · rw [if_pos hn] at h
    obtain ⟨⟨i, hi, e⟩, h2, h3⟩ := bs_some h
    refine ⟨hn, e ▸ pa_mem hi, h2, fun r hr => ?_⟩
    obtain ⟨j, hj, rfl⟩ := mem_pa hr
    exact h3 j hj
  · rw [if_neg hn] at h
    cases h
/-- In rising rows the one that is not longer than those ahead, and of alike ones the first, is the best: by steps. -/
theorem bs_step_lt {ks : List Int} {z : Int} {K k : Nat} {b : Spn} (hk : k < (rnK ks K).length) (h2 : bsK z (rnK ks K) k = some b) : BtrP (pa (rnK ks K) k) b ↔ (pa (rnK ks K) k).sz < b.sz := by
  obtain ⟨⟨i, hi, rfl⟩, _, _⟩ := bs_some h2
  have := rn_order hi hk
  unfold BtrP
  omega
end Go.Proofs.YtlghhhhgfnnjgabDoor
