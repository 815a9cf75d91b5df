/- Slabs in plain words: cells and their bits, bytes written and read. -/
import Derived.Test.YtfnnelkipdajiaaDoorClsM
import Derived.Test.YtfnnelkipdajiaaDoorTagM
import Derived.Laws.CopyOwn
namespace Go.Proofs.YtfnnelkipdajiaaDoor
set_option maxRecDepth 100000
set_option linter.unusedVariables false
set_option linter.unusedSimpArgs false

def cA (l : List Int) (i : Nat) : Int := l.getD i 0
theorem cA_mem {l : List Int} {i : Nat} (h : i < l.length) : cA l i ∈ l := by
  simp only [cA, List.getD, List.getElem?_eq_getElem h, Option.getD_some]
  exact List.getElem_mem _
theorem mem_cA {l : List Int} {x : Int} (h : x ∈ l) : ∃ i, i < l.length ∧ cA l i = x := by
  obtain ⟨i, hi, e⟩ := List.getElem_of_mem h
  exact ⟨i, hi, by simp [cA, List.getD, hi, e]⟩
theorem cA_left {a b : List Int} {i : Nat} (h : i < a.length) : cA (a ++ b) i = cA a i := by simp [cA, List.getD, List.getElem?_append_left h]
theorem cA_last (a : List Int) (x : Int) : cA (a ++ [x]) a.length = x := by simp [cA, List.getD]
theorem take_cA {l : List Int} {k : Nat} (h : k < l.length) : l.take (k + 1) = l.take k ++ [cA l k] := by
  rw [List.take_add_one, List.getElem?_eq_getElem h]
  simp [cA, List.getD, h]
/-- May a number follow, as the k-th? -/
def CelAt (n : Int) (l : List Int) (i : Nat) : Prop := 0 ≤ cA l i ∧ cA l i < n ∧ (0 < i → cA l (i - 1) < cA l i)
instance (n : Int) (l : List Int) (i : Nat) : Decidable (CelAt n l i) := by unfold CelAt; exact inferInstance
/-- Numbers of cells, rising. -/
def CelOk (n : Int) (l : List Int) : Prop := ∀ i, i < l.length → CelAt n l i
instance (n : Int) (l : List Int) : Decidable (CelOk n l) := by unfold CelOk; exact inferInstance
theorem CelOk.init {n : Int} {l : List Int} {x : Int} (h : CelOk n (l ++ [x])) : CelOk n l := fun i hi => by
  obtain ⟨h1, h2, h3⟩ := h i (by simp; omega)
  rw [cA_left hi] at h1 h2 h3
  exact ⟨h1, h2, fun c => by have := h3 c; rwa [cA_left (by omega)] at this⟩
theorem CelOk.lt {n : Int} {l : List Int} (h : CelOk n l) : ∀ {i j : Nat}, i < j → j < l.length → cA l i < cA l j := by
  intro i j hij
  induction j with
  | zero => omega
  | succ j ih =>
    intro hj
    have h1 := (h (j + 1) hj).2.2 (by omega)
    rw [show j + 1 - 1 = j by omega] at h1
    by_cases e : i = j
    · subst e; exact h1
    · have := ih (by omega) (by omega)
      omega
theorem CelOk.below {n : Int} {l : List Int} {x : Int} (h : CelOk n (l ++ [x])) : CelOk x l ∧ 0 ≤ x ∧ x < n := by
  have hx := h l.length (by simp)
  unfold CelAt at hx
  rw [cA_last] at hx
  refine ⟨fun i hi => ?_, hx.1, hx.2.1⟩
  obtain ⟨h1, h2, h3⟩ := h.init i hi
  refine ⟨h1, ?_, h3⟩
  have := h.lt (i := i) (j := l.length) hi (by simp)
  rwa [cA_left hi, cA_last] at this
/-- The bits of cells. -/
def btS : List Int → Int
  | [] => 0
  | x :: r => 2 ^ x.toNat + btS r
theorem btS_snoc (l : List Int) (x : Int) : btS (l ++ [x]) = btS l + 2 ^ x.toNat := by
  induction l with
  | nil => simp [btS]
  | cons a r ih => simp only [List.cons_append, btS, ih]; omega
theorem pow2_pos (k : Nat) : (0 : Int) < 2 ^ k := Int.pow_pos (by omega)
theorem snoc_rec {P : List Int → Prop} (h0 : P []) (hs : ∀ l x, P l → P (l ++ [x])) : ∀ l, P l := by
  intro l
  have key : ∀ n (l : List Int), l.length = n → P l := by
    intro n
    induction n with
    | zero => intro l h; rw [List.eq_nil_of_length_eq_zero h]; exact h0
    | succ n ih =>
      intro l h
      have hne : l ≠ [] := fun e => by rw [e] at h; simp at h
      rw [← List.dropLast_concat_getLast hne]
      exact hs _ _ (ih _ (by simp; omega))
  exact key _ l rfl
theorem bt_lt : ∀ (l : List Int) {n : Int}, CelOk n l → 0 ≤ n → 0 ≤ btS l ∧ btS l < 2 ^ n.toNat := by
  intro l
  induction l using snoc_rec with
  | h0 => intro n _ _; exact ⟨Int.le_refl _, pow2_pos _⟩
  | hs l x ih =>
    intro n h hn
    obtain ⟨h1, h2, h3⟩ := h.below
    obtain ⟨g1, g2⟩ := ih h1 h2
    rw [btS_snoc]
    have hp := pow2_pos x.toNat
    refine ⟨by omega, ?_⟩
    have h4 : (2 : Int) ^ (x.toNat + 1) ≤ 2 ^ n.toNat := by
      obtain ⟨d, hd⟩ : ∃ d, n.toNat = x.toNat + 1 + d := ⟨n.toNat - (x.toNat + 1), by omega⟩
      rw [hd, Int.pow_add 2 (x.toNat + 1) d]
      have := pow2_pos d
      have h5 := pow2_pos (x.toNat + 1)
      have h6 : (2 : Int) ^ (x.toNat + 1) * 1 ≤ 2 ^ (x.toNat + 1) * 2 ^ d := Int.mul_le_mul_of_nonneg_left (by omega) (by omega)
      rw [Int.mul_one] at h6
      exact h6
    rw [Int.pow_succ] at h4
    omega
theorem bit_add {a : Int} {x k : Nat} (h0 : 0 ≤ a) (h1 : a < 2 ^ x) : (a + 2 ^ x) / 2 ^ k % 2 = if k = x then 1 else a / 2 ^ k % 2 := by
  have hk := pow2_pos k
  rcases Nat.lt_trichotomy k x with c | c | c
  · rw [if_neg (by omega)]
    obtain ⟨d, rfl⟩ : ∃ d, x = k + (d + 1) := ⟨x - k - 1, by omega⟩
    rw [Int.pow_add, Int.add_mul_ediv_left _ _ (by omega), Int.pow_succ]
    omega
  · subst c
    rw [if_pos rfl]
    have : (a + 2 ^ k) / 2 ^ k = 1 := by
      rw [show a + 2 ^ k = a + 2 ^ k * 1 by omega, Int.add_mul_ediv_left _ _ (by omega), Int.ediv_eq_zero_of_lt h0 h1]
      rfl
    rw [this]
    rfl
  · rw [if_neg (by omega)]
    have hle : (2 : Int) ^ (x + 1) ≤ 2 ^ k := by
      obtain ⟨d, rfl⟩ : ∃ d, k = x + 1 + d := ⟨k - (x + 1), by omega⟩
      rw [Int.pow_add 2 (x + 1) d]
      have := pow2_pos d
      have h5 := pow2_pos (x + 1)
      have h6 : (2 : Int) ^ (x + 1) * 1 ≤ 2 ^ (x + 1) * 2 ^ d := Int.mul_le_mul_of_nonneg_left (by omega) (by omega)
      rw [Int.mul_one] at h6
      exact h6
    rw [Int.pow_succ] at hle
    have hp := pow2_pos x
    rw [Int.ediv_eq_zero_of_lt (by omega) (by omega), Int.ediv_eq_zero_of_lt h0 (by omega)]
theorem bt_bit : ∀ (l : List Int) {n : Int} (k : Nat), CelOk n l → btS l / 2 ^ k % 2 = if (k : Int) ∈ l then 1 else 0 := by
  intro l
  induction l using snoc_rec with
  | h0 => intro n k _; simp [btS]
  | hs l x ih =>
    intro n k h
    obtain ⟨h1, h2, h3⟩ := h.below
    obtain ⟨g1, g2⟩ := bt_lt l h1 h2
    rw [btS_snoc, bit_add g1 g2, ih k h1]
    by_cases c : k = x.toNat
    · rw [if_pos c, if_pos (by simp; right; omega)]
    · rw [if_neg c]
      have hne : (k : Int) ≠ x := by omega
      by_cases d : (k : Int) ∈ l
      · rw [if_pos d, if_pos (by simp [d])]
      · rw [if_neg d, if_neg (by simp [d, hne])]
/-- The cells that bits tell. -/
def srC (bits : Int) (n : Nat) : List Int := ((List.range n).filter (fun k => decide (bits / 2 ^ k % 2 = 1))).map Int.ofNat
theorem srC_next (bits : Int) (n : Nat) : srC bits (n + 1) = srC bits n ++ (if bits / 2 ^ n % 2 = 1 then [(n : Int)] else []) := by
  unfold srC
  rw [List.range_succ, List.filter_append, List.map_append]
  congr 1
  by_cases c : bits / 2 ^ n % 2 = 1 <;> simp [c]
theorem fil_snoc (l : List Int) (x : Int) (m : Int) : (l ++ [x]).filter (fun y => decide (y < m)) = l.filter (fun y => decide (y < m)) ++ (if x < m then [x] else []) := by
  rw [List.filter_append]
  congr 1
  by_cases c : x < m <;> simp [c]
theorem fil_all {l : List Int} {n m : Int} (h : CelOk n l) (hm : n ≤ m) : l.filter (fun y => decide (y < m)) = l := by
  rw [List.filter_eq_self]
  intro y hy
  obtain ⟨i, hi, rfl⟩ := mem_cA hy
  have := h i hi
  simp only [decide_eq_true_eq]
  have := this.2.1
  omega
theorem fil_next : ∀ (l : List Int) {n : Int} (m : Nat), CelOk n l → l.filter (fun y => decide (y < ((m + 1 : Nat) : Int))) = l.filter (fun y => decide (y < (m : Int))) ++ (if (m : Int) ∈ l then [(m : Int)] else []) := by
  intro l
  induction l using snoc_rec with
  | h0 => intro n m _; simp
  | hs l x ih =>
    intro n m h
    obtain ⟨h1, h2, h3⟩ := h.below
    rw [fil_snoc, fil_snoc, ih m h1]
    by_cases c : x < (m : Int)
    · have hn : ¬ (m : Int) ∈ l := fun hm => by
        obtain ⟨i, hi, e⟩ := mem_cA hm
        have := (h1 i hi).2.1
        omega
      have e1 : x < ((m + 1 : Nat) : Int) := by omega
      have e2 : ¬ (m : Int) ∈ l ++ [x] := by simp [hn]; omega
      rw [if_neg hn, if_pos e1, if_pos c, if_neg e2]
      simp
    · by_cases d : x = (m : Int)
      · have hn : ¬ (m : Int) ∈ l := fun hm => by
          obtain ⟨i, hi, e⟩ := mem_cA hm
          have := (h1 i hi).2.1
          omega
        have e1 : x < ((m + 1 : Nat) : Int) := by omega
        have e2 : (m : Int) ∈ l ++ [x] := by simp [d]
        rw [if_neg hn, if_pos e1, if_neg c, if_pos e2]
        simp [d]
      · have e1 : ¬ x < ((m + 1 : Nat) : Int) := by omega
        rw [if_neg e1, if_neg c]
        by_cases e : (m : Int) ∈ l
        · have e2 : (m : Int) ∈ l ++ [x] := by simp [e]
          rw [if_pos e, if_pos e2]; simp
        · have e2 : ¬ (m : Int) ∈ l ++ [x] := by simp [e]; omega
          rw [if_neg e, if_neg e2]
theorem srC_fil {l : List Int} {n : Int} (h : CelOk n l) : ∀ m : Nat, srC (btS l) m = l.filter (fun y => decide (y < (m : Int))) := by
  intro m
  induction m with
  | zero =>
    have : l.filter (fun y => decide (y < ((0 : Nat) : Int))) = [] := by
      rw [List.filter_eq_nil_iff]
      intro y hy
      obtain ⟨i, hi, rfl⟩ := mem_cA hy
      have := (h i hi).1
      simp
      omega
    rw [this]
    rfl
  | succ m ih =>
    rw [srC_next, ih, fil_next l m h, bt_bit l m h]
    by_cases c : (m : Int) ∈ l <;> simp [c]
/-- Bits tell their cells. -/
theorem srC_bt {l : List Int} {n : Int} (h : CelOk n l) {m : Nat} (hm : n ≤ m) : srC (btS l) m = l := by rw [srC_fil h, fil_all h hm]
theorem srC_ok (bits : Int) : ∀ n : Nat, CelOk n (srC bits n) := by
  intro n
  induction n with
  | zero => intro i hi; simp [srC] at hi
  | succ n ih =>
    rw [srC_next]
    by_cases c : bits / 2 ^ n % 2 = 1
    · rw [if_pos c]
      intro i hi
      have hi' : i < (srC bits n).length ∨ i = (srC bits n).length := by simp at hi; omega
      rcases hi' with hl | rfl
      · obtain ⟨h1, h2, h3⟩ := ih i hl
        unfold CelAt
        rw [cA_left hl]
        exact ⟨h1, by omega, fun q => by rw [cA_left (by omega)]; exact h3 q⟩
      · unfold CelAt
        rw [cA_last]
        refine ⟨by omega, by omega, fun q => ?_⟩
        rw [cA_left (by omega)]
        exact (ih _ (by omega)).2.1
    · rw [if_neg c, List.append_nil]
      intro i hi
      obtain ⟨h1, h2, h3⟩ := ih i hi
      exact ⟨h1, by omega, h3⟩
/-- Bits: P15.1. -/
def BitOk (c : Int) (l : List Int) : Prop := (0 ≤ c ∧ c < 6) ∧ CelOk (ceN c) l
instance (c : Int) (l : List Int) : Decidable (BitOk c l) := by unfold BitOk; exact inferInstance
def bzN (c : Int) (l : List Int) : Int := if BitOk c l then btS l else 0
def bzE (c : Int) (l : List Int) : Int := if BitOk c l then 0 else 1
theorem bz_t {c : Int} {l : List Int} (h : BitOk c l) : bzN c l = btS l ∧ bzE c l = 0 := ⟨if_pos h, if_pos h⟩
theorem bz_f {c : Int} {l : List Int} (h : ¬ BitOk c l) : bzN c l = 0 ∧ bzE c l = 1 := ⟨if_neg h, if_neg h⟩
theorem BitOk.low {c : Int} {l : List Int} (h : BitOk c l) : 0 ≤ btS l ∧ btS l < 16384 ∧ btS l < 2 ^ (ceN c).toNat := by
  obtain ⟨h1, h2⟩ := h
  obtain ⟨_, _, a3, a4, _⟩ := cls_in h1
  have hb := bt_lt l h2 (by omega)
  have : (2 : Int) ^ (ceN c).toNat ≤ 16384 := by
    have hc : (ceN c).toNat ≤ 14 := by omega
    have : ∀ k, k ≤ 14 → (2 : Int) ^ k ≤ 16384 := by decide
    exact this _ hc
  exact ⟨hb.1, by omega, hb.2⟩
theorem BitOk.len {c : Int} {l : List Int} (h : BitOk c l) : l.length ≤ 14 := by
  obtain ⟨h1, h2⟩ := h
  obtain ⟨_, _, a3, a4, _⟩ := cls_in h1
  have hl : srC (btS l) 14 = l := srC_bt h2 (by omega)
  rw [← hl]
  unfold srC
  rw [List.length_map]
  exact Nat.le_trans (List.length_filter_le _ _) (by simp)
/-- Unlike cells have unlike bits. -/
theorem bt_inj {c : Int} {a b : List Int} (ha : BitOk c a) (hb : BitOk c b) : btS a = btS b ↔ a = b := by
  refine ⟨fun e => ?_, fun e => by rw [e]⟩
  obtain ⟨_, _, a3, a4, _⟩ := cls_in ha.1
  have h1 : srC (btS a) 14 = a := srC_bt ha.2 (by omega)
  have h2 : srC (btS b) 14 = b := srC_bt hb.2 (by omega)
  rw [← h1, ← h2, e]
/-- How many bits, counted one by one. -/
def ctB (bits : Int) : Nat → Int
  | 0 => 0
  | k + 1 => ctB bits k + bits / 2 ^ k % 2
theorem ctB_len (bits : Int) : ∀ n, ctB bits n = ((srC bits n).length : Int) := by
  intro n
  induction n with
  | zero => rfl
  | succ n ih =>
    rw [srC_next, List.length_append]
    simp only [ctB, ih]
    by_cases c : bits / 2 ^ n % 2 = 1
    · rw [if_pos c, c]; simp
    · rw [if_neg c]
      have : bits / 2 ^ n % 2 = 0 := by omega
      rw [this]; simp
theorem ctB_bt {c : Int} {l : List Int} (h : BitOk c l) : ctB (btS l) 32 = l.length := by
  obtain ⟨_, _, a3, a4, _⟩ := cls_in h.1
  rw [ctB_len, srC_bt h.2 (by omega)]
end Go.Proofs.YtfnnelkipdajiaaDoor
