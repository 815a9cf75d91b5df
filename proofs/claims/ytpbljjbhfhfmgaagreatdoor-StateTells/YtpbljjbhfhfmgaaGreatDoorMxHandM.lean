/- HandM: these texts, one behind another. -/
/- Handles: their numbers and their texts. Plain facts. -/
namespace Go.Proofs.YtpbljjbhfhfmgaaGreatDoor
set_option maxRecDepth 100000
set_option linter.unusedVariables false
set_option linter.unusedSimpArgs false

def RightH (I G : Int) : Prop := 0 ≤ I ∧ I < 32 ∧ 0 ≤ G ∧ G ≤ 65535
instance (I G : Int) : Decidable (RightH I G) := by unfold RightH; exact inferInstance
def rightHB (I G : Int) : Bool := decide (RightH I G)
theorem rightHB_t {I G : Int} (h : RightH I G) : rightHB I G = true := decide_eq_true h
theorem rightHB_f {I G : Int} (h : ¬ RightH I G) : rightHB I G = false := decide_eq_false h
theorem rightHB_iff (I G : Int) : rightHB I G = true ↔ 0 ≤ I ∧ I < 32 ∧ 0 ≤ G ∧ G ≤ 65535 := by unfold rightHB; rw [decide_eq_true_eq]; rfl
/-- Its number. -/
def codeH (I G : Int) : Int := I * 65536 + G + 1
/-- Whose number is n? -/
def OfH (n : Int) : Prop := 1 ≤ n ∧ n ≤ 2097152
instance (n : Int) : Decidable (OfH n) := by unfold OfH; exact inferInstance
def ofHB (n : Int) : Bool := decide (OfH n)
def ofI (n : Int) : Int := if OfH n then (n - 1) / 65536 else 0
def ofG (n : Int) : Int := if OfH n then (n - 1) % 65536 else 0
theorem of_code {I G : Int} (h : RightH I G) : OfH (codeH I G) ∧ ofI (codeH I G) = I ∧ ofG (codeH I G) = G := by
  unfold RightH at h
  have ho : OfH (codeH I G) := by unfold OfH codeH; omega
  refine ⟨ho, ?_, ?_⟩
  · unfold ofI; rw [if_pos ho]; unfold codeH; omega
  · unfold ofG; rw [if_pos ho]; unfold codeH; omega
theorem code_of {n : Int} (h : OfH n) : RightH (ofI n) (ofG n) ∧ codeH (ofI n) (ofG n) = n := by
  unfold ofI ofG
  rw [if_pos h, if_pos h]
  unfold OfH at h
  unfold RightH codeH
  omega

/-- A number's digits. -/
def numL (n : Nat) : List UInt8 := if n < 10 then [(48 + n).toUInt8] else numL (n / 10) ++ [(48 + n % 10).toUInt8]
  termination_by n
theorem numL_one {n : Nat} (h : n < 10) : numL n = [(48 + n).toUInt8] := by rw [numL, if_pos h]
theorem numL_more {n : Nat} (h : ¬ n < 10) : numL n = numL (n / 10) ++ [(48 + n % 10).toUInt8] := by rw [numL, if_neg h]
theorem byte_of (n : Nat) (h : n < 256) : (Nat.toUInt8 n).toNat = n := by simp; omega
def Dig (b : UInt8) : Prop := 48 ≤ b.toNat ∧ b.toNat ≤ 57
instance (b : UInt8) : Decidable (Dig b) := by unfold Dig; exact inferInstance
theorem snoc_ind {P : List UInt8 → Prop} (h0 : P []) (h1 : ∀ l b, P l → P (l ++ [b])) (l : List UInt8) : P l := by
  have key : ∀ n (l : List UInt8), l.length = n → P l := by
    intro n
    induction n with
    | zero => intro l h; rw [List.eq_nil_of_length_eq_zero h]; exact h0
    | succ n ih =>
      intro l h
      have hne : l ≠ [] := fun e => by rw [e] at h; simp at h
      rw [← List.dropLast_concat_getLast hne]
      exact h1 _ _ (ih _ (by simp [h]))
  exact key _ l rfl
theorem numL_dig (n : Nat) : ∀ b ∈ numL n, Dig b := by
  intro b hb
  by_cases h : n < 10
  · rw [numL_one h] at hb
    obtain rfl := List.mem_singleton.1 hb
    unfold Dig
    rw [byte_of _ (by omega)]
    omega
  · rw [numL_more h] at hb
    rcases List.mem_append.1 hb with hb | hb
    · exact numL_dig (n / 10) b hb
    · obtain rfl := List.mem_singleton.1 hb
      unfold Dig
      rw [byte_of _ (by omega)]
      omega
  termination_by n
  decreasing_by omega
/-- What a row of digits says. -/
def valD (l : List UInt8) : Nat := l.foldl (fun n b => n * 10 + (b.toNat - 48)) 0
theorem valD_snoc (l : List UInt8) (b : UInt8) : valD (l ++ [b]) = valD l * 10 + (b.toNat - 48) := by unfold valD; rw [List.foldl_append]; rfl
theorem valD_numL (n : Nat) : valD (numL n) = n := by
  by_cases h : n < 10
  · rw [numL_one h]
    show 0 * 10 + ((Nat.toUInt8 (48 + n)).toNat - 48) = n
    rw [byte_of _ (by omega)]
    omega
  · rw [numL_more h, valD_snoc, valD_numL (n / 10), byte_of _ (by omega)]
    omega
  termination_by n
  decreasing_by omega
theorem numL_pos (n : Nat) : 1 ≤ (numL n).length := by
  by_cases h : n < 10
  · rw [numL_one h]; exact Nat.le_refl _
  · rw [numL_more h, List.length_append]; simp
theorem numL_len (k : Nat) : ∀ n, 1 ≤ k → n < 10 ^ k → (numL n).length ≤ k := by
  induction k with
  | zero => intro n h1 h; omega
  | succ k ih =>
    intro n h1 h
    by_cases h10 : n < 10
    · rw [numL_one h10]; simp
    · rw [numL_more h10, List.length_append]
      by_cases hk : k = 0
      · subst hk; simp at h; omega
      · have := ih (n / 10) (by omega) (by rw [Nat.pow_succ] at h; omega)
        simp
        exact this
theorem numL_two {n : Nat} (h : n < 100) : (numL n).length ≤ 2 := numL_len 2 n (by omega) (by simpa using h)
theorem numL_five {n : Nat} (h : n < 100000) : (numL n).length ≤ 5 := numL_len 5 n (by omega) (by simpa using h)
/-- A row of digits with no 0 ahead is its number's. -/
theorem valD_pos : ∀ (l : List UInt8) (a : UInt8) (t : List UInt8), l = a :: t → Dig a → a ≠ 48 → 1 ≤ valD l := by
  intro l
  induction l using snoc_ind with
  | h0 => intro a t h; cases h
  | h1 l b ih =>
    intro a t h hd hn
    rw [valD_snoc]
    cases l with
    | nil =>
      obtain ⟨rfl, rfl⟩ := List.cons.inj h
      unfold Dig at hd
      have : b.toNat ≠ 48 := fun e => hn (UInt8.toNat_inj.1 e)
      show 1 ≤ 0 * 10 + (b.toNat - 48)
      omega
    | cons c l =>
      have e : c = a := (List.cons.inj h).1
      subst e
      have := ih c l rfl hd hn
      omega
theorem numL_valD (l : List UInt8) (hd : ∀ b ∈ l, Dig b) (h1 : 1 ≤ l.length) (h0 : l.length = 1 ∨ ∀ t, l ≠ 48 :: t) : numL (valD l) = l := by
  induction l using snoc_ind with
  | h0 => simp at h1
  | h1 l b ih =>
    have hb := hd b (by simp)
    unfold Dig at hb
    rw [valD_snoc]
    cases l with
    | nil =>
      show numL (0 * 10 + (b.toNat - 48)) = [b]
      rw [numL_one (by omega)]
      congr 1
      apply UInt8.toNat_inj.1
      rw [byte_of _ (by omega)]
      omega
    | cons c l =>
      have hc : c ≠ 48 := by
        rcases h0 with h0 | h0
        · simp at h0
        · intro e
          exact h0 (l ++ [b]) (by rw [e]; rfl)
      have hv := valD_pos (c :: l) c l rfl (hd c (by simp)) hc
      have hi := ih (fun x hx => hd x (List.mem_append_left _ hx)) (by simp) (.inr fun t e => hc (List.cons.inj e).1)
      rw [numL_more (by omega)]
      rw [show (valD (c :: l) * 10 + (b.toNat - 48)) / 10 = valD (c :: l) by omega, hi]
      congr 1
      congr 1
      apply UInt8.toNat_inj.1
      rw [byte_of _ (by omega)]
      omega

/-- Its text. -/
def textH (I G : Int) : List UInt8 := numL I.toNat ++ (46 :: numL G.toNat)
def textR (I G : Int) : List UInt8 := if RightH I G then textH I G else []
/-- The text is that handle's. -/
def HasText (l : List UInt8) (I G : Int) : Prop := RightH I G ∧ textH I G = l
theorem no_point {l : List UInt8} (h : ∀ b ∈ l, Dig b) : ∀ b ∈ l, b ≠ 46 := by
  intro b hb e
  have := h b hb
  unfold Dig at this
  rw [e] at this
  exact absurd this (by decide)
/-- Where the first point stands, the two rows are told. -/
theorem split_point {a b c d : List UInt8} (ha : ∀ x ∈ a, x ≠ 46) (hc : ∀ x ∈ c, x ≠ 46) (h : a ++ (46 :: b) = c ++ (46 :: d)) : a = c ∧ b = d := by
  induction a generalizing c with
  | nil =>
    cases c with
    | nil => exact ⟨rfl, (List.cons.inj h).2⟩
    | cons x c => exact absurd (List.cons.inj h).1.symm (hc x (by simp))
  | cons x a ih =>
    cases c with
    | nil => exact absurd (List.cons.inj h).1 (ha x (by simp))
    | cons y c =>
      obtain ⟨h1, h2⟩ := List.cons.inj h
      obtain ⟨h3, h4⟩ := ih (fun z hz => ha z (by simp [hz])) (fun z hz => hc z (by simp [hz])) h2
      exact ⟨by rw [h1, h3], h4⟩
theorem hasText_inj {l : List UInt8} {I G I' G' : Int} (h : HasText l I G) (k : HasText l I' G') : I = I' ∧ G = G' := by
  obtain ⟨h1, h2⟩ := h
  obtain ⟨k1, k2⟩ := k
  have e := h2.trans k2.symm
  obtain ⟨e1, e2⟩ := split_point (no_point (numL_dig _)) (no_point (numL_dig _)) e
  have f1 := congrArg valD e1
  have f2 := congrArg valD e2
  rw [valD_numL, valD_numL] at f1 f2
  unfold RightH at h1 k1
  omega
theorem textH_len {I G : Int} (h : RightH I G) : (textH I G).length ≤ 8 ∧ 3 ≤ (textH I G).length := by
  unfold RightH at h
  have h1 := numL_two (n := I.toNat) (by omega)
  have h2 := numL_five (n := G.toNat) (by omega)
  have h3 := numL_pos I.toNat
  have h4 := numL_pos G.toNat
  unfold textH
  rw [List.length_append, List.length_cons]
  omega

/-- The document's Digits. -/
def digN (l : List UInt8) (most : Nat) : Int := if (1 ≤ l.length ∧ l.length ≤ most) ∧ ∀ b ∈ l, Dig b then (valD l : Int) else -1
theorem digN_numL {n most : Nat} (h : (numL n).length ≤ most) : digN (numL n) most = n := by
  unfold digN
  rw [if_pos ⟨⟨numL_pos n, h⟩, numL_dig n⟩, valD_numL]
/-- Where the first point is. -/
def pointL : List UInt8 → Nat
  | [] => 0
  | a :: t => if a = 46 then 0 else pointL t + 1
theorem pointL_le (l : List UInt8) : pointL l ≤ l.length := by
  induction l with
  | nil => exact Nat.le_refl _
  | cons a t ih => unfold pointL; split <;> simp <;> omega
theorem pointL_split {a b : List UInt8} (h : ∀ x ∈ a, x ≠ 46) : pointL (a ++ (46 :: b)) = a.length := by
  induction a with
  | nil => rfl
  | cons x a ih =>
    show (if x = 46 then 0 else pointL (a ++ (46 :: b)) + 1) = _
    rw [if_neg (h x (by simp)), ih (fun y hy => h y (by simp [hy]))]
    rfl
/-- What the document's Parse takes a text for. -/
def parI (l : List UInt8) : Int := digN (l.take (pointL l)) 2
def parG (l : List UInt8) : Int := if pointL l < l.length then digN (l.drop (pointL l + 1)) 5 else -1
theorem par_text {l : List UInt8} {I G : Int} (h : HasText l I G) : parI l = I ∧ parG l = G := by
  obtain ⟨h1, rfl⟩ := h
  have hp : pointL (textH I G) = (numL I.toNat).length := pointL_split (no_point (numL_dig _))
  unfold RightH at h1
  have t1 : (textH I G).take (numL I.toNat).length = numL I.toNat := by unfold textH; rw [List.take_left]
  have t2 : (textH I G).drop ((numL I.toNat).length + 1) = numL G.toNat := by
    unfold textH
    rw [← List.drop_drop, List.drop_left]
    rfl
  have hl : (textH I G).length = (numL I.toNat).length + ((numL G.toNat).length + 1) := by unfold textH; simp
  refine ⟨?_, ?_⟩
  · unfold parI
    rw [hp, t1, digN_numL (numL_two (by omega))]
    omega
  · unfold parG
    rw [hp, if_pos (by omega), t2, digN_numL (numL_five (by omega))]
    omega
theorem par_iff (l : List UInt8) (I G : Int) : HasText l I G ↔ (RightH (parI l) (parG l) ∧ textH (parI l) (parG l) = l) ∧ I = parI l ∧ G = parG l := by
  constructor
  · intro h
    obtain ⟨e1, e2⟩ := par_text h
    rw [e1, e2]
    exact ⟨h, rfl, rfl⟩
  · rintro ⟨h, rfl, rfl⟩
    exact h
/-- By Index, then by Gen. -/
def cmpH (I G J K : Int) : Int := if I < J ∨ (I = J ∧ G < K) then -1 else if I = J ∧ G = K then 0 else 1
theorem cmpH_less {I G J K : Int} (h : I < J ∨ (I = J ∧ G < K)) : cmpH I G J K = -1 := if_pos h
theorem cmpH_same {I G J K : Int} (h : I = J ∧ G = K) : cmpH I G J K = 0 := by unfold cmpH; rw [if_neg (by omega), if_pos h]
theorem cmpH_more {I G J K : Int} (h : ¬ (I < J ∨ (I = J ∧ G < K))) (k : ¬ (I = J ∧ G = K)) : cmpH I G J K = 1 := by unfold cmpH; rw [if_neg h, if_neg k]
theorem ofH_t {n : Int} (h : 1 ≤ n ∧ n ≤ 2097152) : ofHB n = true ∧ ofI n = (n - 1) / 65536 ∧ ofG n = (n - 1) % 65536 := ⟨decide_eq_true h, if_pos h, if_pos h⟩
theorem ofH_f {n : Int} (h : ¬ (1 ≤ n ∧ n ≤ 2097152)) : ofHB n = false ∧ ofI n = 0 ∧ ofG n = 0 := ⟨decide_eq_false h, if_neg h, if_neg h⟩
/-- What Code answers. -/
def codN (I G : Int) : Int := if RightH I G then codeH I G else 0
def codE (I G : Int) : Int := if RightH I G then 0 else 1
theorem cod_t {I G : Int} (h : RightH I G) : codN I G = codeH I G ∧ codE I G = 0 := ⟨if_pos h, if_pos h⟩
theorem cod_f {I G : Int} (h : ¬ RightH I G) : codN I G = 0 ∧ codE I G = 1 := ⟨if_neg h, if_neg h⟩
theorem textR_t {I G : Int} (h : RightH I G) : textR I G = textH I G := if_pos h
theorem textR_f {I G : Int} (h : ¬ RightH I G) : textR I G = [] := if_neg h
theorem valD_lt (l : List UInt8) (h : ∀ b ∈ l, Dig b) : valD l < 10 ^ l.length := by
  induction l using snoc_ind with
  | h0 => decide
  | h1 l b ih =>
    have h1 := ih (fun x hx => h x (List.mem_append_left _ hx))
    have h2 := h b (by simp)
    unfold Dig at h2
    rw [valD_snoc, List.length_append]
    show _ < 10 ^ (l.length + 1)
    rw [Nat.pow_succ]
    omega
/-- So far: i digits. -/
def DigSo (l : List UInt8) (i : Nat) (v : Nat) : Prop := (∀ b ∈ l.take i, Dig b) ∧ v = valD (l.take i)
theorem DigSo.zero (l : List UInt8) : DigSo l 0 0 := ⟨fun b hb => by simp at hb, rfl⟩
theorem DigSo.next {l : List UInt8} {i v : Nat} (h : DigSo l i v) (hi : i < l.length) (hd : Dig (l.getD i 0)) : DigSo l (i + 1) (v * 10 + ((l.getD i 0).toNat - 48)) := by
  have e : l.take (i + 1) = l.take i ++ [l.getD i 0] := by
    rw [List.take_add_one, List.getElem?_eq_getElem hi, List.getD_eq_getElem?_getD, List.getElem?_eq_getElem hi]
    rfl
  unfold DigSo
  rw [e, valD_snoc, ← h.2]
  refine ⟨fun b hb => ?_, rfl⟩
  rcases List.mem_append.1 hb with hb | hb
  · exact h.1 b hb
  · rw [List.mem_singleton.1 hb]; exact hd
theorem DigSo.le {l : List UInt8} {i v : Nat} (h : DigSo l i v) (hi : i ≤ 5) : v ≤ 99999 := by
  have h1 := valD_lt (l.take i) h.1
  rw [← h.2] at h1
  have h2 : (l.take i).length ≤ 5 := by rw [List.length_take]; omega
  have h3 : 10 ^ (l.take i).length ≤ 10 ^ 5 := Nat.pow_le_pow_right (by decide) h2
  have h4 : (10 : Nat) ^ 5 = 100000 := by decide
  omega
theorem digN_all {l : List UInt8} {v most : Nat} (h : DigSo l l.length v) (h1 : 1 ≤ l.length) (hm : l.length ≤ most) : digN l most = v := by
  have e : l.take l.length = l := List.take_of_length_le (Nat.le_refl _)
  unfold DigSo at h
  rw [e] at h
  unfold digN
  rw [if_pos ⟨⟨h1, hm⟩, h.1⟩, h.2]
theorem digN_bad {l : List UInt8} {i most : Nat} (hi : i < l.length) (hd : ¬ Dig (l.getD i 0)) : digN l most = -1 := by
  unfold digN
  rw [if_neg]
  rintro ⟨_, h⟩
  refine hd ?_
  rw [List.getD_eq_getElem?_getD, List.getElem?_eq_getElem hi]
  exact h _ (List.getElem_mem _)
theorem digN_len {l : List UInt8} {most : Nat} (h : ¬ (1 ≤ l.length ∧ l.length ≤ most)) : digN l most = -1 := by
  unfold digN
  rw [if_neg (fun k => h k.1)]
theorem pointL_before {l : List UInt8} {j : Nat} (h : j < pointL l) : l.getD j 0 ≠ 46 := by
  induction l generalizing j with
  | nil => exact absurd h (by simp [pointL])
  | cons a t ih =>
    unfold pointL at h
    split at h
    · omega
    · rename_i ha
      cases j with
      | zero => simpa using ha
      | succ j =>
        have := ih (j := j) (by omega)
        simpa using this
theorem pointL_at {l : List UInt8} (h : pointL l < l.length) : l.getD (pointL l) 0 = 46 := by
  induction l with
  | nil => simp [pointL] at h
  | cons a t ih =>
    unfold pointL at h ⊢
    split
    · rename_i ha; simpa using ha
    · rename_i ha
      rw [if_neg ha] at h
      have := ih (by simpa using h)
      simpa using this
theorem pointL_none {l : List UInt8} (h : ∀ j, j < l.length → l.getD j 0 ≠ 46) : pointL l = l.length := by
  induction l with
  | nil => rfl
  | cons a t ih =>
    unfold pointL
    have h0 := h 0 (by simp)
    rw [if_neg (by simpa using h0), ih (fun j hj => by have := h (j + 1) (by simpa using hj); simpa using this)]
    rfl
end Go.Proofs.YtpbljjbhfhfmgaaGreatDoor
