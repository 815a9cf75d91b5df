/- handle.read: what it takes a text for. Plain facts. -/
import Derived.Test.YtfkiankalddgpaaDoorRefParse
import Derived.Test.YtfkiankalddgpaaDoorUtf
namespace Go.Proofs.YtfkiankalddgpaaDoor
set_option maxRecDepth 100000
set_option linter.unusedVariables false
set_option linter.unusedSimpArgs false

/-- One digit more. -/
def dg1 (n : Nat) (c : UInt8) : Nat := n * 10 + (c.toNat - 48)
/-- The numbers on both sides of the first point (p: it was there already). -/
def rd : List UInt8 → Bool → Nat → Nat → Option (Nat × Nat)
  | [], _, a, b => some (a, b)
  | c :: t, false, a, b => if c = 46 then rd t true a b else if Dig c ∧ dg1 a c ≤ 65535 then rd t false (dg1 a c) b else none
  | c :: t, true, a, b => if Dig c ∧ dg1 b c ≤ 65535 then rd t true a (dg1 b c) else none
theorem rd_nil (p : Bool) (a b : Nat) : rd [] p a b = some (a, b) := by cases p <;> rfl
theorem rd_point (t : List UInt8) (a b : Nat) : rd (46 :: t) false a b = rd t true a b := if_pos rfl
theorem rd_one {c : UInt8} (t : List UInt8) (a b : Nat) (h : Dig c) (hl : dg1 a c ≤ 65535) : rd (c :: t) false a b = rd t false (dg1 a c) b := by
  have hc : c ≠ 46 := fun e => by rw [e] at h; exact absurd h (by decide)
  show (if c = 46 then _ else _) = _
  rw [if_neg hc, if_pos ⟨h, hl⟩]
theorem rd_two {c : UInt8} (t : List UInt8) (a b : Nat) (h : Dig c) (hl : dg1 b c ≤ 65535) : rd (c :: t) true a b = rd t true a (dg1 b c) := if_pos ⟨h, hl⟩
theorem rd_bad1 {c : UInt8} (t : List UInt8) (a b : Nat) (hc : c ≠ 46) (h : ¬ (Dig c ∧ dg1 a c ≤ 65535)) : rd (c :: t) false a b = none := by
  show (if c = 46 then _ else _) = _
  rw [if_neg hc, if_neg h]
theorem rd_bad2 {c : UInt8} (t : List UInt8) (a b : Nat) (h : ¬ (Dig c ∧ dg1 b c ≤ 65535)) : rd (c :: t) true a b = none := if_neg h
def addD (a : Nat) (l : List UInt8) : Nat := l.foldl dg1 a
theorem addD_le (l : List UInt8) : ∀ a, a ≤ addD a l := by
  induction l with
  | nil => intro a; exact Nat.le_refl _
  | cons c l ih =>
    intro a
    have := ih (dg1 a c)
    have h2 : a ≤ dg1 a c := by unfold dg1; omega
    exact Nat.le_trans h2 this
theorem rd_digs1 (d t : List UInt8) (b : Nat) : ∀ a, (∀ c ∈ d, Dig c) → addD a d ≤ 65535 → rd (d ++ t) false a b = rd t false (addD a d) b := by
  induction d with
  | nil => intro a _ _; rfl
  | cons c d ih =>
    intro a hd hl
    have h1 : dg1 a c ≤ 65535 := Nat.le_trans (addD_le d (dg1 a c)) hl
    show rd (c :: (d ++ t)) false a b = _
    rw [rd_one _ _ _ (hd c (by simp)) h1, ih _ (fun x hx => hd x (by simp [hx])) hl]
    rfl
theorem rd_digs2 (d : List UInt8) (a : Nat) : ∀ b, (∀ c ∈ d, Dig c) → addD b d ≤ 65535 → rd d true a b = some (a, addD b d) := by
  induction d with
  | nil => intro b _ _; rfl
  | cons c d ih =>
    intro b hd hl
    have h1 : dg1 b c ≤ 65535 := Nat.le_trans (addD_le d (dg1 b c)) hl
    rw [rd_two _ _ _ (hd c (by simp)) h1, ih _ (fun x hx => hd x (by simp [hx])) hl]
    rfl
theorem addD_num (n : Nat) : addD 0 (numL n) = n := valD_numL n
theorem rd_text {I G : Int} (h : RightH I G) : rd (textH I G) false 0 0 = some (I.toNat, G.toNat) := by
  unfold RightH at h
  unfold textH
  rw [rd_digs1 _ _ _ _ (numL_dig _) (by rw [addD_num]; omega), rd_point, rd_digs2 _ _ _ (numL_dig _) (by rw [addD_num]; omega), addD_num, addD_num]
/-- What read answers. -/
def rdB (l : List UInt8) : Bool := (rd l false 0 0).isSome
def rdI (l : List UInt8) : Int := ((rd l false 0 0).getD (0, 0)).1
def rdG (l : List UInt8) : Int := ((rd l false 0 0).getD (0, 0)).2
theorem rd_some {l : List UInt8} {a b : Nat} (h : rd l false 0 0 = some (a, b)) : rdB l = true ∧ rdI l = a ∧ rdG l = b := by
  unfold rdB rdI rdG
  rw [h]
  exact ⟨rfl, rfl, rfl⟩
theorem rd_none {l : List UInt8} (h : rd l false 0 0 = none) : rdB l = false ∧ rdI l = 0 ∧ rdG l = 0 := by
  unfold rdB rdI rdG
  rw [h]
  exact ⟨rfl, rfl, rfl⟩
/-- What Parse makes of it is what the document's Parse makes of the text. -/
theorem par_of_rd_t {l : List UInt8} (hb : rdB l = true) (ht : textR (rdI l) (rdG l) = l) : parRI l = rdI l ∧ parRG l = rdG l ∧ parE l = 0 := by
  have hr : RightH (rdI l) (rdG l) := by
    by_cases h : RightH (rdI l) (rdG l)
    · exact h
    · rw [textR_f h] at ht
      subst ht
      exact absurd (by decide) h
  rw [textR_t hr] at ht
  obtain ⟨⟨k1, k2⟩, k3, k4⟩ := (par_iff l (rdI l) (rdG l)).1 ⟨hr, ht⟩
  obtain ⟨p1, p2, p3⟩ := par_t (l := l) ⟨k1, k2⟩
  exact ⟨p1.trans k3.symm, p2.trans k4.symm, p3⟩
theorem par_of_rd_f {l : List UInt8} (h : ¬ (rdB l = true ∧ textR (rdI l) (rdG l) = l)) : parRI l = 0 ∧ parRG l = 0 ∧ parE l = 3 := by
  refine par_f (fun k => h ?_)
  unfold parOK at k
  obtain ⟨k1, k2⟩ := k
  have e := rd_text k1
  rw [k2] at e
  obtain ⟨r1, r2, r3⟩ := rd_some e
  have q : RightH (parI l) (parG l) := k1
  unfold RightH at q
  refine ⟨r1, ?_⟩
  rw [r2, r3, show ((parI l).toNat : Int) = parI l by omega, show ((parG l).toNat : Int) = parG l by omega, textR_t k1]
  exact k2
/-- What a range over a text gives: a byte below 128 is its own rune. -/
theorem dec_low (s : ByteArray) (i : Nat) (h : (s.get! i).toNat < 128) : Go.Utf8.decode s i = ((s.get! i).toNat, 1) := by
  rw [decode_decB]
  unfold decB
  rw [if_pos h]
theorem decB_high (c1 c2 c3 : Bool) (b0 b1 b2 b3 : Nat) (h : ¬ b0 < 128) (h0 : b0 < 256) : 128 ≤ (decB c1 c2 c3 b0 b1 b2 b3).1 ∧ (decB c1 c2 c3 b0 b1 b2 b3).1 ≤ 2147483647 := by
  unfold decB
  rw [if_neg h]
  simp only [Bool.and_eq_true, decide_eq_true_eq, beq_iff_eq]
  repeat' split
  all_goals omega
theorem dec_high (s : ByteArray) (i : Nat) (h : ¬ (s.get! i).toNat < 128) : 128 ≤ (Go.Utf8.decode s i).1 ∧ (Go.Utf8.decode s i).1 ≤ 2147483647 := by
  rw [decode_decB]
  exact decB_high _ _ _ _ _ _ _ h (s.get! i).toNat_lt
theorem decB_step (c1 c2 c3 : Bool) (b0 b1 b2 b3 : Nat) : 1 ≤ (decB c1 c2 c3 b0 b1 b2 b3).2 := by
  unfold decB
  repeat' split
  all_goals simp
theorem dec_step (s : ByteArray) (i : Nat) : 1 ≤ (Go.Utf8.decode s i).2 := by
  rw [decode_decB]
  exact decB_step _ _ _ _ _ _ _
theorem get_bang (s : ByteArray) (i : Nat) (h : i < s.size) : s.get! i = s.data.toList.getD i 0 := by
  have h' : i < s.data.size := h
  have e1 : s.get! i = s.data[i]! := rfl
  rw [e1, getElem!_pos s.data i h', List.getD_eq_getElem?_getD, List.getElem?_eq_getElem (by simpa using h')]
  simp
theorem drop_cons (l : List UInt8) (i : Nat) (h : i < l.length) : l.drop i = l.getD i 0 :: l.drop (i + 1) := by
  rw [List.drop_eq_getElem_cons h, List.getD_eq_getElem?_getD, List.getElem?_eq_getElem h]
  rfl
end Go.Proofs.YtfkiankalddgpaaDoor
