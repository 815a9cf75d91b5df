/- SlabM · SlabN: these texts, one behind another. -/
import Derived.Test.YtfnnelkipdajiaaDoorClsM
import Derived.Test.YtfnnelkipdajiaaDoorTagM
import Derived.Laws.CopyOwn
/- Slabs in plain words: cells and their bits, bytes written and read. -/
namespace Go.Proofs.YtfnnelkipdajiaaDoor
set_option maxRecDepth 100000
set_option linter.unusedVariables false
set_option linter.unusedSimpArgs false

def cA (l : List Int) (i : Nat) : Int := l.getD i 0
theorem cA_mem {l : List Int} {i : Nat} (h : i < l.length) : cA l i ∈ l := by
  simp only [cA, List.getD, List.getElem?_eq_getElem h, Option.getD_some]
  exact List.getElem_mem _
theorem mem_cA {l : List Int} {x : Int} (h : x ∈ l) : ∃ i, i < l.length ∧ cA l i = x := by
  obtain ⟨i, hi, e⟩ := List.getElem_of_mem h
  exact ⟨i, hi, by simp [cA, List.getD, hi, e]⟩
theorem cA_left {a b : List Int} {i : Nat} (h : i < a.length) : cA (a ++ b) i = cA a i := by simp [cA, List.getD, List.getElem?_append_left h]
theorem cA_last (a : List Int) (x : Int) : cA (a ++ [x]) a.length = x := by simp [cA, List.getD]
theorem take_cA {l : List Int} {k : Nat} (h : k < l.length) : l.take (k + 1) = l.take k ++ [cA l k] := by
  rw [List.take_add_one, List.getElem?_eq_getElem h]
  simp [cA, List.getD, h]
/-- May a number follow, as the k-th? -/
def CelAt (n : Int) (l : List Int) (i : Nat) : Prop := 0 ≤ cA l i ∧ cA l i < n ∧ (0 < i → cA l (i - 1) < cA l i)
instance (n : Int) (l : List Int) (i : Nat) : Decidable (CelAt n l i) := by unfold CelAt; exact inferInstance
/-- Numbers of cells, rising. -/
def CelOk (n : Int) (l : List Int) : Prop := ∀ i, i < l.length → CelAt n l i
instance (n : Int) (l : List Int) : Decidable (CelOk n l) := by unfold CelOk; exact inferInstance
theorem CelOk.init {n : Int} {l : List Int} {x : Int} (h : CelOk n (l ++ [x])) : CelOk n l := fun i hi => by
  obtain ⟨h1, h2, h3⟩ := h i (by simp; omega)
  rw [cA_left hi] at h1 h2 h3
  exact ⟨h1, h2, fun c => by have := h3 c; rwa [cA_left (by omega)] at this⟩
theorem CelOk.lt {n : Int} {l : List Int} (h : CelOk n l) : ∀ {i j : Nat}, i < j → j < l.length → cA l i < cA l j := by
  intro i j hij
  induction j with
  | zero => omega
  | succ j ih =>
    intro hj
    have h1 := (h (j + 1) hj).2.2 (by omega)
    rw [show j + 1 - 1 = j by omega] at h1
    by_cases e : i = j
    · subst e; exact h1
    · have := ih (by omega) (by omega)
      omega
theorem CelOk.below {n : Int} {l : List Int} {x : Int} (h : CelOk n (l ++ [x])) : CelOk x l ∧ 0 ≤ x ∧ x < n := by
  have hx := h l.length (by simp)
  unfold CelAt at hx
  rw [cA_last] at hx
  refine ⟨fun i hi => ?_, hx.1, hx.2.1⟩
  obtain ⟨h1, h2, h3⟩ := h.init i hi
  refine ⟨h1, ?_, h3⟩
  have := h.lt (i := i) (j := l.length) hi (by simp)
  rwa [cA_left hi, cA_last] at this
/-- The bits of cells. -/
def btS : List Int → Int
  | [] => 0
  | x :: r => 2 ^ x.toNat + btS r
theorem btS_snoc (l : List Int) (x : Int) : btS (l ++ [x]) = btS l + 2 ^ x.toNat := by
  induction l with
  | nil => simp [btS]
  | cons a r ih => simp only [List.cons_append, btS, ih]; omega
theorem pow2_pos (k : Nat) : (0 : Int) < 2 ^ k := Int.pow_pos (by omega)
theorem snoc_rec {P : List Int → Prop} (h0 : P []) (hs : ∀ l x, P l → P (l ++ [x])) : ∀ l, P l := by
  intro l
  have key : ∀ n (l : List Int), l.length = n → P l := by
    intro n
    induction n with
    | zero => intro l h; rw [List.eq_nil_of_length_eq_zero h]; exact h0
    | succ n ih =>
      intro l h
      have hne : l ≠ [] := fun e => by rw [e] at h; simp at h
      rw [← List.dropLast_concat_getLast hne]
      exact hs _ _ (ih _ (by simp; omega))
  exact key _ l rfl
theorem bt_lt : ∀ (l : List Int) {n : Int}, CelOk n l → 0 ≤ n → 0 ≤ btS l ∧ btS l < 2 ^ n.toNat := by
  intro l
  induction l using snoc_rec with
  | h0 => intro n _ _; exact ⟨Int.le_refl _, pow2_pos _⟩
  | hs l x ih =>
    intro n h hn
    obtain ⟨h1, h2, h3⟩ := h.below
    obtain ⟨g1, g2⟩ := ih h1 h2
    rw [btS_snoc]
    have hp := pow2_pos x.toNat
    refine ⟨by omega, ?_⟩
    have h4 : (2 : Int) ^ (x.toNat + 1) ≤ 2 ^ n.toNat := by
      obtain ⟨d, hd⟩ : ∃ d, n.toNat = x.toNat + 1 + d := ⟨n.toNat - (x.toNat + 1), by omega⟩
      rw [hd, Int.pow_add 2 (x.toNat + 1) d]
      have := pow2_pos d
      have h5 := pow2_pos (x.toNat + 1)
      have h6 : (2 : Int) ^ (x.toNat + 1) * 1 ≤ 2 ^ (x.toNat + 1) * 2 ^ d := Int.mul_le_mul_of_nonneg_left (by omega) (by omega)
      rw [Int.mul_one] at h6
      exact h6
    rw [Int.pow_succ] at h4
    omega
theorem bit_add {a : Int} {x k : Nat} (h0 : 0 ≤ a) (h1 : a < 2 ^ x) : (a + 2 ^ x) / 2 ^ k % 2 = if k = x then 1 else a / 2 ^ k % 2 := by
  have hk := pow2_pos k
  rcases Nat.lt_trichotomy k x with c | c | c
  · rw [if_neg (by omega)]
    obtain ⟨d, rfl⟩ : ∃ d, x = k + (d + 1) := ⟨x - k - 1, by omega⟩
    rw [Int.pow_add, Int.add_mul_ediv_left _ _ (by omega), Int.pow_succ]
    omega
  · subst c
    rw [if_pos rfl]
    have : (a + 2 ^ k) / 2 ^ k = 1 := by
      rw [show a + 2 ^ k = a + 2 ^ k * 1 by omega, Int.add_mul_ediv_left _ _ (by omega), Int.ediv_eq_zero_of_lt h0 h1]
      rfl
    rw [this]
    rfl
  · rw [if_neg (by omega)]
    have hle : (2 : Int) ^ (x + 1) ≤ 2 ^ k := by
      obtain ⟨d, rfl⟩ : ∃ d, k = x + 1 + d := ⟨k - (x + 1), by omega⟩
      rw [Int.pow_add 2 (x + 1) d]
      have := pow2_pos d
      have h5 := pow2_pos (x + 1)
      have h6 : (2 : Int) ^ (x + 1) * 1 ≤ 2 ^ (x + 1) * 2 ^ d := Int.mul_le_mul_of_nonneg_left (by omega) (by omega)
      rw [Int.mul_one] at h6
      exact h6
    rw [Int.pow_succ] at hle
    have hp := pow2_pos x
    rw [Int.ediv_eq_zero_of_lt (by omega) (by omega), Int.ediv_eq_zero_of_lt h0 (by omega)]
theorem bt_bit : ∀ (l : List Int) {n : Int} (k : Nat), CelOk n l → btS l / 2 ^ k % 2 = if (k : Int) ∈ l then 1 else 0 := by
  intro l
  induction l using snoc_rec with
  | h0 => intro n k _; simp [btS]
  | hs l x ih =>
    intro n k h
    obtain ⟨h1, h2, h3⟩ := h.below
    obtain ⟨g1, g2⟩ := bt_lt l h1 h2
    rw [btS_snoc, bit_add g1 g2, ih k h1]
    by_cases c : k = x.toNat
    · rw [if_pos c, if_pos (by simp; right; omega)]
    · rw [if_neg c]
      have hne : (k : Int) ≠ x := by omega
      by_cases d : (k : Int) ∈ l
      · rw [if_pos d, if_pos (by simp [d])]
      · rw [if_neg d, if_neg (by simp [d, hne])]
/-- The cells that bits tell. -/
def srC (bits : Int) (n : Nat) : List Int := ((List.range n).filter (fun k => decide (bits / 2 ^ k % 2 = 1))).map Int.ofNat
theorem srC_next (bits : Int) (n : Nat) : srC bits (n + 1) = srC bits n ++ (if bits / 2 ^ n % 2 = 1 then [(n : Int)] else []) := by
  unfold srC
  rw [List.range_succ, List.filter_append, List.map_append]
  congr 1
  by_cases c : bits / 2 ^ n % 2 = 1 <;> simp [c]
theorem fil_snoc (l : List Int) (x : Int) (m : Int) : (l ++ [x]).filter (fun y => decide (y < m)) = l.filter (fun y => decide (y < m)) ++ (if x < m then [x] else []) := by
  rw [List.filter_append]
  congr 1
  by_cases c : x < m <;> simp [c]
theorem fil_all {l : List Int} {n m : Int} (h : CelOk n l) (hm : n ≤ m) : l.filter (fun y => decide (y < m)) = l := by
  rw [List.filter_eq_self]
  intro y hy
  obtain ⟨i, hi, rfl⟩ := mem_cA hy
  have := h i hi
  simp only [decide_eq_true_eq]
  have := this.2.1
  omega
theorem fil_next : ∀ (l : List Int) {n : Int} (m : Nat), CelOk n l → l.filter (fun y => decide (y < ((m + 1 : Nat) : Int))) = l.filter (fun y => decide (y < (m : Int))) ++ (if (m : Int) ∈ l then [(m : Int)] else []) := by
  intro l
  induction l using snoc_rec with
  | h0 => intro n m _; simp
  | hs l x ih =>
    intro n m h
    obtain ⟨h1, h2, h3⟩ := h.below
    rw [fil_snoc, fil_snoc, ih m h1]
    by_cases c : x < (m : Int)
    · have hn : ¬ (m : Int) ∈ l := fun hm => by
        obtain ⟨i, hi, e⟩ := mem_cA hm
        have := (h1 i hi).2.1
        omega
      have e1 : x < ((m + 1 : Nat) : Int) := by omega
      have e2 : ¬ (m : Int) ∈ l ++ [x] := by simp [hn]; omega
      rw [if_neg hn, if_pos e1, if_pos c, if_neg e2]
      simp
    · by_cases d : x = (m : Int)
      · have hn : ¬ (m : Int) ∈ l := fun hm => by
          obtain ⟨i, hi, e⟩ := mem_cA hm
          have := (h1 i hi).2.1
          omega
        have e1 : x < ((m + 1 : Nat) : Int) := by omega
        have e2 : (m : Int) ∈ l ++ [x] := by simp [d]
        rw [if_neg hn, if_pos e1, if_neg c, if_pos e2]
        simp [d]
      · have e1 : ¬ x < ((m + 1 : Nat) : Int) := by omega
        rw [if_neg e1, if_neg c]
        by_cases e : (m : Int) ∈ l
        · have e2 : (m : Int) ∈ l ++ [x] := by simp [e]
          rw [if_pos e, if_pos e2]; simp
        · have e2 : ¬ (m : Int) ∈ l ++ [x] := by simp [e]; omega
          rw [if_neg e, if_neg e2]
theorem srC_fil {l : List Int} {n : Int} (h : CelOk n l) : ∀ m : Nat, srC (btS l) m = l.filter (fun y => decide (y < (m : Int))) := by
  intro m
  induction m with
  | zero =>
    have : l.filter (fun y => decide (y < ((0 : Nat) : Int))) = [] := by
      rw [List.filter_eq_nil_iff]
      intro y hy
      obtain ⟨i, hi, rfl⟩ := mem_cA hy
      have := (h i hi).1
      simp
      omega
    rw [this]
    rfl
  | succ m ih =>
    rw [srC_next, ih, fil_next l m h, bt_bit l m h]
    by_cases c : (m : Int) ∈ l <;> simp [c]
/-- Bits tell their cells. -/
theorem srC_bt {l : List Int} {n : Int} (h : CelOk n l) {m : Nat} (hm : n ≤ m) : srC (btS l) m = l := by rw [srC_fil h, fil_all h hm]
theorem srC_ok (bits : Int) : ∀ n : Nat, CelOk n (srC bits n) := by
  intro n
  induction n with
  | zero => intro i hi; simp [srC] at hi
  | succ n ih =>
    rw [srC_next]
    by_cases c : bits / 2 ^ n % 2 = 1
    · rw [if_pos c]
      intro i hi
      have hi' : i < (srC bits n).length ∨ i = (srC bits n).length := by simp at hi; omega
      rcases hi' with hl | rfl
      · obtain ⟨h1, h2, h3⟩ := ih i hl
        unfold CelAt
        rw [cA_left hl]
        exact ⟨h1, by omega, fun q => by rw [cA_left (by omega)]; exact h3 q⟩
      · unfold CelAt
        rw [cA_last]
        refine ⟨by omega, by omega, fun q => ?_⟩
        rw [cA_left (by omega)]
        exact (ih _ (by omega)).2.1
    · rw [if_neg c, List.append_nil]
      intro i hi
      obtain ⟨h1, h2, h3⟩ := ih i hi
      exact ⟨h1, by omega, h3⟩
/-- Bits: P15.1. -/
def BitOk (c : Int) (l : List Int) : Prop := (0 ≤ c ∧ c < 6) ∧ CelOk (ceN c) l
instance (c : Int) (l : List Int) : Decidable (BitOk c l) := by unfold BitOk; exact inferInstance
def bzN (c : Int) (l : List Int) : Int := if BitOk c l then btS l else 0
def bzE (c : Int) (l : List Int) : Int := if BitOk c l then 0 else 1
theorem bz_t {c : Int} {l : List Int} (h : BitOk c l) : bzN c l = btS l ∧ bzE c l = 0 := ⟨if_pos h, if_pos h⟩
theorem bz_f {c : Int} {l : List Int} (h : ¬ BitOk c l) : bzN c l = 0 ∧ bzE c l = 1 := ⟨if_neg h, if_neg h⟩
theorem BitOk.low {c : Int} {l : List Int} (h : BitOk c l) : 0 ≤ btS l ∧ btS l < 16384 ∧ btS l < 2 ^ (ceN c).toNat := by
  obtain ⟨h1, h2⟩ := h
  obtain ⟨_, _, a3, a4, _⟩ := cls_in h1
  have hb := bt_lt l h2 (by omega)
  have : (2 : Int) ^ (ceN c).toNat ≤ 16384 := by
    have hc : (ceN c).toNat ≤ 14 := by omega
    have : ∀ k, k ≤ 14 → (2 : Int) ^ k ≤ 16384 := by decide
    exact this _ hc
  exact ⟨hb.1, by omega, hb.2⟩
theorem BitOk.len {c : Int} {l : List Int} (h : BitOk c l) : l.length ≤ 14 := by
  obtain ⟨h1, h2⟩ := h
  obtain ⟨_, _, a3, a4, _⟩ := cls_in h1
  have hl : srC (btS l) 14 = l := srC_bt h2 (by omega)
  rw [← hl]
  unfold srC
  rw [List.length_map]
  exact Nat.le_trans (List.length_filter_le _ _) (by simp)
/-- Unlike cells have unlike bits. -/
theorem bt_inj {c : Int} {a b : List Int} (ha : BitOk c a) (hb : BitOk c b) : btS a = btS b ↔ a = b := by
  refine ⟨fun e => ?_, fun e => by rw [e]⟩
  obtain ⟨_, _, a3, a4, _⟩ := cls_in ha.1
  have h1 : srC (btS a) 14 = a := srC_bt ha.2 (by omega)
  have h2 : srC (btS b) 14 = b := srC_bt hb.2 (by omega)
  rw [← h1, ← h2, e]
/-- How many bits, counted one by one. -/
def ctB (bits : Int) : Nat → Int
  | 0 => 0
  | k + 1 => ctB bits k + bits / 2 ^ k % 2
theorem ctB_len (bits : Int) : ∀ n, ctB bits n = ((srC bits n).length : Int) := by
  intro n
  induction n with
  | zero => rfl
  | succ n ih =>
    rw [srC_next, List.length_append]
    simp only [ctB, ih]
    by_cases c : bits / 2 ^ n % 2 = 1
    · rw [if_pos c, c]; simp
    · rw [if_neg c]
      have : bits / 2 ^ n % 2 = 0 := by omega
      rw [this]; simp
theorem ctB_bt {c : Int} {l : List Int} (h : BitOk c l) : ctB (btS l) 32 = l.length := by
  obtain ⟨_, _, a3, a4, _⟩ := cls_in h.1
  rw [ctB_len, srC_bt h.2 (by omega)]
end Go.Proofs.YtfnnelkipdajiaaDoor
/- Slabs in plain words: their bytes. -/
namespace Go.Proofs.YtfnnelkipdajiaaDoor
set_option maxRecDepth 100000
set_option linter.unusedVariables false
set_option linter.unusedSimpArgs false

/-- Where a cell begins, and how much it holds, in bytes. -/
def cB (c k : Int) : Nat := (8 * (4 + k * wdN c)).toNat
def wB8 (c : Int) : Nat := (8 * wdN c).toNat
theorem cls6 {c : Int} (h : 0 ≤ c ∧ c < 6) : c = 0 ∨ c = 1 ∨ c = 2 ∨ c = 3 ∨ c = 4 ∨ c = 5 := by omega
theorem cB_in {c x : Int} (h : CtOk c x) : 32 ≤ cB c x ∧ cB c x + wB8 c ≤ 256 ∧ 16 ≤ wB8 c ∧ wB8 c ≤ 120 ∧ (cB c x : Int) = 8 * ctN c x ∧ (wB8 c : Int) = 8 * wdN c := by
  have hc := h.cls
  have h1 := h.1
  have h2 := h.2
  rw [(ct_t h).1]
  unfold cB wB8
  rcases cls6 hc with rfl | rfl | rfl | rfl | rfl | rfl <;> simp only [wdN, ceN] at h2 ⊢ <;> simp at h2 ⊢ <;> omega
theorem cB_step {c x y : Int} (hc : 0 ≤ c ∧ c < 6) (h0 : 0 ≤ x) (h : x < y) : cB c x + wB8 c ≤ cB c y := by
  unfold cB wB8
  rcases cls6 hc with rfl | rfl | rfl | rfl | rfl | rfl <;> simp only [wdN] <;> simp <;> omega
theorem CelOk.ct {c : Int} {l : List Int} (h : CelOk (ceN c) l) {i : Nat} (hi : i < l.length) : CtOk c (cA l i) := ⟨(h i hi).1, (h i hi).2.1⟩
theorem splice_at {L cs : List Int} {i : Nat} (h : i + cs.length ≤ L.length) (p : Nat) : (splice L i cs).getD p 0 = if i ≤ p ∧ p < i + cs.length then cs.getD (p - i) 0 else L.getD p 0 := by
  unfold splice
  simp only [List.getD]
  by_cases c1 : p < i
  · rw [if_neg (by omega), List.getElem?_append_left (by rw [List.length_take]; omega), List.getElem?_take, if_pos c1]
  · rw [List.getElem?_append_right (by rw [List.length_take]; omega), List.length_take, show min i L.length = i by omega]
    by_cases c2 : p < i + cs.length
    · rw [if_pos ⟨by omega, c2⟩, List.getElem?_append_left (by omega)]
    · rw [if_neg (by omega), List.getElem?_append_right (by omega), List.getElem?_drop, show i + cs.length + (p - i - cs.length) = p by omega]
/-- A slab's head, bytes 0 behind. -/
def swZ (c : Int) (l : List Int) (nx pv : Int) : List Int := ofL [c + 1, btS l, nx, pv] ++ List.replicate 224 0
theorem swZ_len (c : Int) (l : List Int) (nx pv : Int) : (swZ c l nx pv).length = 256 := by unfold swZ; rw [List.length_append, ofL_length, List.length_replicate]; rfl
theorem swZ_zero {c : Int} {l : List Int} {nx pv : Int} {p : Nat} (h : 32 ≤ p) : (swZ c l nx pv).getD p 0 = 0 := by
  unfold swZ
  simp only [List.getD]
  rw [List.getElem?_append_right (by rw [ofL_length]; exact h), List.getElem?_replicate]
  split <;> rfl
/-- The bytes when k cells are laid. -/
def swK (c : Int) (l : List Int) (ds : List (List Int)) (nx pv : Int) : Nat → List Int
  | 0 => swZ c l nx pv
  | k + 1 => splice (swK c l ds nx pv k) (cB c (cA l k)) (da ds k)
/-- A slab. -/
def SlbOk (c : Int) (l : List Int) (ds : List (List Int)) (nx pv : Int) : Prop := BitOk c l ∧ 0 < l.length ∧ l.length = ds.length ∧ (0 ≤ nx ∧ nx ≤ 64) ∧ (0 ≤ pv ∧ pv ≤ 64) ∧ ∀ i, i < l.length → (da ds i).length ≤ wB8 c
instance (c : Int) (l : List Int) (ds : List (List Int)) (nx pv : Int) : Decidable (SlbOk c l ds nx pv) := by unfold SlbOk; exact inferInstance
theorem SlbOk.fit {c : Int} {l : List Int} {ds : List (List Int)} {nx pv : Int} (h : SlbOk c l ds nx pv) {i : Nat} (hi : i < l.length) : 32 ≤ cB c (cA l i) ∧ cB c (cA l i) + (da ds i).length ≤ 256 ∧ (da ds i).length ≤ wB8 c := by
  have h1 := cB_in (h.1.2.ct hi)
  have h2 := h.2.2.2.2.2 i hi
  omega
theorem swK_len {c : Int} {l : List Int} {ds : List (List Int)} {nx pv : Int} (h : SlbOk c l ds nx pv) : ∀ {k : Nat}, k ≤ l.length → (swK c l ds nx pv k).length = 256 := by
  intro k
  induction k with
  | zero => intro _; exact swZ_len _ _ _ _
  | succ k ih =>
    intro hk
    have := ih (by omega)
    have hf := h.fit (i := k) (by omega)
    show (splice _ _ _).length = 256
    rw [length_splice _ _ _ (by omega)]
    exact this
/-- Each byte: a cell's, or as in the beginning. -/
theorem swK_at {c : Int} {l : List Int} {ds : List (List Int)} {nx pv : Int} (h : SlbOk c l ds nx pv) : ∀ {k : Nat}, k ≤ l.length → ∀ p,
    (∀ i, i < k → cB c (cA l i) ≤ p → p < cB c (cA l i) + wB8 c → (swK c l ds nx pv k).getD p 0 = (da ds i).getD (p - cB c (cA l i)) 0) ∧
    ((∀ i, i < k → ¬ (cB c (cA l i) ≤ p ∧ p < cB c (cA l i) + wB8 c)) → (swK c l ds nx pv k).getD p 0 = (swZ c l nx pv).getD p 0) := by
  intro k
  induction k with
  | zero => intro _ p; exact ⟨fun i hi => by omega, fun _ => rfl⟩
  | succ k ih =>
    intro hk p
    obtain ⟨ih1, ih2⟩ := ih (by omega) p
    have hf := h.fit (i := k) (by omega)
    have hlen := swK_len h (k := k) (by omega)
    have hs := splice_at (L := swK c l ds nx pv k) (cs := da ds k) (i := cB c (cA l k)) (by omega) p
    have hdis : ∀ i, i < k → cB c (cA l i) + wB8 c ≤ cB c (cA l k) := fun i hi => cB_step h.1.1 (h.1.2 i (by omega)).1 (h.1.2.lt hi (by omega))
    show (∀ i, i < k + 1 → cB c (cA l i) ≤ p → p < cB c (cA l i) + wB8 c → (splice (swK c l ds nx pv k) (cB c (cA l k)) (da ds k)).getD p 0 = _) ∧ (_ → (splice (swK c l ds nx pv k) (cB c (cA l k)) (da ds k)).getD p 0 = _)
    rw [hs]
    refine ⟨fun i hi h1 h2 => ?_, fun hn => ?_⟩
    · by_cases e : i = k
      · subst e
        by_cases q : p < cB c (cA l i) + (da ds i).length
        · rw [if_pos ⟨h1, q⟩]
        · rw [if_neg (by omega)]
          rw [ih2 (fun j hj => by have := hdis j hj; omega), swZ_zero (by omega)]
          simp only [List.getD]
          rw [List.getElem?_eq_none (by omega)]
          rfl
      · have := hdis i (by omega)
        rw [if_neg (by omega)]
        exact ih1 i (by omega) h1 h2
    · have h0 := hn k (by omega)
      rw [if_neg (by omega)]
      exact ih2 (fun i hi => hn i (by omega))
def swE (c : Int) (l : List Int) (ds : List (List Int)) (nx pv : Int) : Int := if SlbOk c l ds nx pv then 0 else 1
def swL (c : Int) (l : List Int) (ds : List (List Int)) (nx pv : Int) : List Int := if SlbOk c l ds nx pv then swK c l ds nx pv l.length else []
theorem sw_t {c : Int} {l : List Int} {ds : List (List Int)} {nx pv : Int} (h : SlbOk c l ds nx pv) : swE c l ds nx pv = 0 ∧ swL c l ds nx pv = swK c l ds nx pv l.length := ⟨if_pos h, if_pos h⟩
theorem sw_f {c : Int} {l : List Int} {ds : List (List Int)} {nx pv : Int} (h : ¬ SlbOk c l ds nx pv) : swE c l ds nx pv = 1 ∧ swL c l ds nx pv = [] := ⟨if_neg h, if_neg h⟩
theorem swE_0 {c : Int} {l : List Int} {ds : List (List Int)} {nx pv : Int} : swE c l ds nx pv = 0 ↔ SlbOk c l ds nx pv := by
  unfold swE
  by_cases h : SlbOk c l ds nx pv
  · rw [if_pos h]; exact ⟨fun _ => h, fun _ => rfl⟩
  · rw [if_neg h]; exact ⟨fun e => by omega, fun e => (h e).elim⟩
theorem ext_by0 {a b : List Int} (h : a.length = b.length) (k : ∀ i, i < a.length → a.getD i 0 = b.getD i 0) : a = b := by
  apply List.ext_getElem?
  intro i
  by_cases hi : i < a.length
  · have := k i hi
    simp only [List.getD, List.getElem?_eq_getElem hi, List.getElem?_eq_getElem (show i < b.length by omega), Option.getD_some] at this
    rw [List.getElem?_eq_getElem hi, List.getElem?_eq_getElem (show i < b.length by omega), this]
  · rw [List.getElem?_eq_none (by omega), List.getElem?_eq_none (by omega)]
/-- Data with bytes 0 behind, as many as a cell holds. -/
def pdD (c : Int) (d : List Int) : List Int := d ++ List.replicate (wB8 c - d.length) 0
theorem pdD_len {c : Int} {d : List Int} (h : d.length ≤ wB8 c) : (pdD c d).length = wB8 c := by simp [pdD]; omega
theorem pdD_at (c : Int) (d : List Int) (i : Nat) : (pdD c d).getD i 0 = d.getD i 0 := by
  unfold pdD
  simp only [List.getD]
  by_cases h : i < d.length
  · rw [List.getElem?_append_left h]
  · rw [List.getElem?_append_right (by omega), List.getElem?_eq_none (l := d) (by omega), List.getElem?_replicate]
    split <;> rfl
theorem da_map (f : List Int → List Int) {ds : List (List Int)} {i : Nat} (h : i < ds.length) : da (ds.map f) i = f (da ds i) := by simp [da, List.getD, h]
theorem SlbOk.pad {c : Int} {l : List Int} {ds : List (List Int)} {nx pv : Int} (h : SlbOk c l ds nx pv) : SlbOk c l (ds.map (pdD c)) nx pv := by
  obtain ⟨h1, h2, h3, h4, h5, h6⟩ := h
  refine ⟨h1, h2, by rw [List.length_map]; exact h3, h4, h5, fun i hi => ?_⟩
  rw [da_map _ (by omega), pdD_len (h6 i hi)]
  exact Nat.le_refl _
theorem swK_pad {c : Int} {l : List Int} {ds : List (List Int)} {nx pv : Int} (h : SlbOk c l ds nx pv) : swK c l (ds.map (pdD c)) nx pv l.length = swK c l ds nx pv l.length := by
  have h' := h.pad
  refine ext_by0 (by rw [swK_len h' (Nat.le_refl _), swK_len h (Nat.le_refl _)]) fun p hp => ?_
  obtain ⟨a1, a2⟩ := swK_at h (k := l.length) (Nat.le_refl _) p
  obtain ⟨b1, b2⟩ := swK_at h' (k := l.length) (Nat.le_refl _) p
  by_cases c0 : ∃ i, i < l.length ∧ cB c (cA l i) ≤ p ∧ p < cB c (cA l i) + wB8 c
  · obtain ⟨i, hi, q1, q2⟩ := c0
    rw [a1 i hi q1 q2, b1 i hi q1 q2, da_map _ (by have := h.2.2.1; omega), pdD_at]
  · have hn : ∀ i, i < l.length → ¬ (cB c (cA l i) ≤ p ∧ p < cB c (cA l i) + wB8 c) := fun i hi q => c0 ⟨i, hi, q⟩
    rw [a2 hn, b2 hn]
/-- A cell's bytes of what is written. -/
theorem swK_cell {c : Int} {l : List Int} {ds : List (List Int)} {nx pv : Int} (h : SlbOk c l ds nx pv) {i : Nat} (hi : i < l.length) : ((swK c l ds nx pv l.length).drop (cB c (cA l i))).take (wB8 c) = pdD c (da ds i) := by
  have hf := h.fit hi
  have hb := cB_in (h.1.2.ct hi)
  have hl := swK_len h (k := l.length) (Nat.le_refl _)
  refine ext_by0 (by rw [List.length_take, List.length_drop, pdD_len hf.2.2]; omega) fun p hp => ?_
  rw [List.length_take, List.length_drop] at hp
  rw [pdD_at]
  have h1 := (swK_at h (k := l.length) (Nat.le_refl _) (cB c (cA l i) + p)).1 i hi (by omega) (by omega)
  rw [show cB c (cA l i) + p - cB c (cA l i) = p by omega] at h1
  rw [← h1]
  simp only [List.getD]
  rw [List.getElem?_take, if_pos (by omega), List.getElem?_drop]
/-- Its head's words. -/
theorem swK_head {c : Int} {l : List Int} {ds : List (List Int)} {nx pv : Int} (h : SlbOk c l ds nx pv) : (swK c l ds nx pv l.length).take 32 = ofL [c + 1, btS l, nx, pv] := by
  have hl := swK_len h (k := l.length) (Nat.le_refl _)
  refine ext_by0 (by rw [List.length_take, hl, ofL_length]; rfl) fun p hp => ?_
  rw [List.length_take] at hp
  have h1 := (swK_at h (k := l.length) (Nat.le_refl _) p).2 (fun i hi q => by have := h.fit hi; omega)
  have h2 : ((swK c l ds nx pv l.length).take 32).getD p 0 = (swK c l ds nx pv l.length).getD p 0 := by
    simp only [List.getD]
    rw [List.getElem?_take, if_pos (by omega)]
  rw [h2, h1]
  unfold swZ
  simp only [List.getD]
  rw [List.getElem?_append_left (by rw [ofL_length]; show p < 4 * 8; omega)]
theorem getN_head {b : List Int} {ws : List Int} (hb : b.length = 256) (h : b.take 32 = ofL ws) (hw : ws.length = 4) (hok : okL ws = true) {p : Nat} (hp : p < 4) : getN b (p : Int) = ws.getD p 0 ∧ getB b (p : Int) = true := by
  have h1 := get_of hok p (by omega)
  rw [← h] at h1
  have hc : cut b p = cut (b.take 32) p := by
    unfold cut
    rw [List.drop_take, List.take_take]
    congr 1
    omega
  have hh : hasB b.length (p : Int) = true := by unfold hasB; simp; omega
  have hh2 : hasB (b.take 32).length (p : Int) = true := by unfold hasB; rw [List.length_take]; simp; omega
  constructor
  · rw [← h1.1]
    unfold getN
    rw [hh, hh2]
    simp only [Int.toNat_natCast]
    rw [hc]
  · rw [← h1.2]
    unfold getB
    rw [hh, hh2]
    simp only [Int.toNat_natCast]
    rw [hc]
/-- What bytes tell: class, bits, neighbors, cells and their data. -/
def rsC (b : List Int) : Int := getN b 0 - 1
def rsL (b : List Int) : List Int := srC (getN b 1) (ceN (rsC b)).toNat
def rsD (b : List Int) : List (List Int) := (rsL b).map (fun k => (b.drop (cB (rsC b) k)).take (wB8 (rsC b)))
/-- Bytes that are a slab's. -/
def RdS (b : List Int) : Prop := b.length = 256 ∧ SlbOk (rsC b) (rsL b) (rsD b) (getN b 2) (getN b 3) ∧ swL (rsC b) (rsL b) (rsD b) (getN b 2) (getN b 3) = b
instance (b : List Int) : Decidable (RdS b) := by unfold RdS; exact inferInstance
def rsB (b : List Int) : Bool := decide (RdS b)
theorem SlbOk.words {c : Int} {l : List Int} {ds : List (List Int)} {nx pv : Int} (h : SlbOk c l ds nx pv) : okL [c + 1, btS l, nx, pv] = true := by
  have hb := h.1.low
  have hc := h.1.1
  obtain ⟨_, _, _, h4, h5, _⟩ := h
  simp only [okL, List.all_cons, List.all_nil, Bool.and_true, Bool.and_eq_true]
  exact ⟨fitB_t (by omega) (by omega), fitB_t (by omega) (by omega), fitB_t (by omega) (by omega), fitB_t (by omega) (by omega)⟩
/-- What is written is read: data with bytes 0 behind. -/
theorem rd_sw {c : Int} {l : List Int} {ds : List (List Int)} {nx pv : Int} (h : SlbOk c l ds nx pv) :
    rsC (swL c l ds nx pv) = c ∧ rsL (swL c l ds nx pv) = l ∧ rsD (swL c l ds nx pv) = ds.map (pdD c) ∧ getN (swL c l ds nx pv) 2 = nx ∧ getN (swL c l ds nx pv) 3 = pv ∧ RdS (swL c l ds nx pv) := by
  have hl := swK_len h (k := l.length) (Nat.le_refl _)
  have hh := swK_head h
  have g : ∀ p : Nat, p < 4 → getN (swL c l ds nx pv) (p : Int) = [c + 1, btS l, nx, pv].getD p 0 := fun p hp => by rw [(sw_t h).2]; exact (getN_head hl hh rfl h.words hp).1
  have g0 : getN (swL c l ds nx pv) 0 = c + 1 := g 0 (by omega)
  have g1 : getN (swL c l ds nx pv) 1 = btS l := g 1 (by omega)
  have g2 : getN (swL c l ds nx pv) 2 = nx := g 2 (by omega)
  have g3 : getN (swL c l ds nx pv) 3 = pv := g 3 (by omega)
  have e1 : rsC (swL c l ds nx pv) = c := by unfold rsC; rw [g0]; omega
  have hce := cls_in h.1.1
  have e2 : rsL (swL c l ds nx pv) = l := by unfold rsL; rw [e1, g1]; exact srC_bt h.1.2 (by omega)
  have e3 : rsD (swL c l ds nx pv) = ds.map (pdD c) := by
    unfold rsD
    rw [e1, e2]
    have hlen := h.2.2.1
    apply List.ext_getElem?
    intro i
    by_cases hi : i < l.length
    · rw [List.getElem?_map, List.getElem?_map, List.getElem?_eq_getElem hi, List.getElem?_eq_getElem (show i < ds.length by omega)]
      simp only [Option.map_some]
      have k1 := swK_cell h hi
      have k2 : cA l i = l[i] := by simp [cA, List.getD, hi]
      have k3 : da ds i = ds[i]'(by omega) := by simp [da, List.getD, show i < ds.length by omega]
      rw [k2, k3] at k1
      rw [(sw_t h).2, k1]
    · rw [List.getElem?_eq_none (by simp; omega), List.getElem?_eq_none (by simp; omega)]
  refine ⟨e1, e2, e3, g2, g3, ?_⟩
  unfold RdS
  rw [e1, e2, e3, g2, g3]
  refine ⟨by rw [(sw_t h).2]; exact hl, h.pad, ?_⟩
  rw [(sw_t h.pad).2, (sw_t h).2, swK_pad h]
end Go.Proofs.YtfnnelkipdajiaaDoor
