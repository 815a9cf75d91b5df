/- Names: what a text's runes are, as lists of bytes: decoding and writing undo each other; names, and what Fold makes of a text. Plain facts. -/
import Derived.Test.YtmefepjjlhphnaaDoorUtf
import Derived.Lib.RuneBytes
namespace Go.Proofs.YtmefepjjlhphnaaDoor
set_option maxRecDepth 100000
set_option linter.unusedVariables false
set_option linter.unusedSimpArgs false
open Go.Lib

/-- What a list of bytes begins with. -/
def runeL (l : List UInt8) : Nat × Nat := runeB l.length (l.getD 0 0).toNat (l.getD 1 0).toNat (l.getD 2 0).toNat (l.getD 3 0).toNat
/-- What a range over a text gives of it. -/
def decL (l : List UInt8) : Nat × Nat := if (runeL l).2 = 0 then (65533, 1) else runeL l

theorem get_drop (s : ByteArray) (i k : Nat) : s.get! (i + k) = (s.data.toList.drop i).getD k 0 := by
  rw [List.getD_eq_getElem?_getD, List.getElem?_drop, ByteArray.get!]
  by_cases h : i + k < s.data.size
  · rw [getElem!_pos s.data (i + k) h, List.getElem?_eq_getElem (by simpa using h)]
    simp
  · rw [getElem!_neg s.data (i + k) h, List.getElem?_eq_none (by simpa using h)]
    rfl
theorem runeN_L (s : ByteArray) (i : Nat) : runeN s i = runeL (s.data.toList.drop i) := by
  unfold runeN runeL
  have e : s.get! i = s.get! (i + 0) := rfl
  have hz : s.size = s.data.toList.length := rfl
  rw [e, get_drop, get_drop, get_drop, get_drop, List.length_drop, hz]
theorem decode_L (s : ByteArray) (i : Nat) (hi : i < s.size) : Go.Utf8.decode s i = decL (s.data.toList.drop i) := by
  rw [decode_rune s i hi, runeN_L]; rfl

def Val (r : Nat) : Prop := r < 55296 ∨ (57344 ≤ r ∧ r ≤ 1114111)
theorem enc_len (r : Nat) : 1 ≤ (encodeRune r).length ∧ (encodeRune r).length ≤ 4 := by
  have := encodeRuneZ_length r
  simpa [encodeRune] using this

/-- The bytes of a rune, as numbers. -/
def encN (r : Nat) : List Nat :=
  if r ≤ 127 then [r]
  else if r ≤ 2047 then [192 + r / 64, 128 + r % 64]
  else if r ≤ 65535 then [224 + r / 4096, 128 + r / 64 % 64, 128 + r % 64]
  else [240 + r / 262144, 128 + r / 4096 % 64, 128 + r / 64 % 64, 128 + r % 64]
theorem tu (x : Int) (y : Nat) (h : x = (y : Int)) : x.toNat.toUInt8 = y.toUInt8 := by subst h; rfl
theorem row2 {a b a' b' : Nat} (h0 : a = a') (h1 : b = b') : [a, b] = [a', b'] := by rw [h0, h1]
theorem row3 {a b c a' b' c' : Nat} (h0 : a = a') (h1 : b = b') (h2 : c = c') : [a, b, c] = [a', b', c'] := by rw [h0, h1, h2]
theorem row4 {a b c d a' b' c' d' : Nat} (h0 : a = a') (h1 : b = b') (h2 : c = c') (h3 : d = d') : [a, b, c, d] = [a', b', c', d'] := by rw [h0, h1, h2, h3]
theorem enc_N (r : Nat) (h : Val r) : encodeRune r = (encN r).map Nat.toUInt8 := by
  unfold Val at h
  unfold encodeRune encN
  split
  · rw [encodeRuneZ_one (by omega) (by omega)]; simp
  · split
    · rw [encodeRuneZ_two (by omega) (by omega)]
      simp only [List.map_cons, List.map_nil]
      rw [tu (192 + (r : Int) / 64) (192 + r / 64) (by omega), tu (128 + (r : Int) % 64) (128 + r % 64) (by omega)]
    · split
      · rw [encodeRuneZ_three (by omega)]
        simp only [List.map_cons, List.map_nil]
        rw [tu (224 + (r : Int) / 4096) (224 + r / 4096) (by omega), tu (128 + (r : Int) / 64 % 64) (128 + r / 64 % 64) (by omega), tu (128 + (r : Int) % 64) (128 + r % 64) (by omega)]
      · rw [encodeRuneZ_four (by omega) (by omega)]
        simp only [List.map_cons, List.map_nil]
        rw [tu (240 + (r : Int) / 262144) (240 + r / 262144) (by omega), tu (128 + (r : Int) / 4096 % 64) (128 + r / 4096 % 64) (by omega), tu (128 + (r : Int) / 64 % 64) (128 + r / 64 % 64) (by omega), tu (128 + (r : Int) % 64) (128 + r % 64) (by omega)]
theorem encN_byte (r : Nat) (h : Val r) : ∀ x ∈ encN r, x < 256 := by
  intro x hx
  unfold Val at h
  unfold encN at hx
  repeat' split at hx
  all_goals (simp at hx; omega)

set_option maxRecDepth 100000 in
/-- What is written is decoded. -/
theorem runeL_enc (r : Nat) (t : List UInt8) (h : Val r) : runeL (encodeRune r ++ t) = (r, (encodeRune r).length) := by
  rw [enc_N r h]
  have hv := h
  unfold Val at hv
  have hb := encN_byte r h
  have tn : ∀ x, x < 256 → (Nat.toUInt8 x).toNat = x := fun x hx => by simp; omega
  unfold runeL
  unfold encN at hb ⊢
  split
  · rw [if_pos (by assumption)] at hb
    have e0 := tn r (hb r (by simp))
    simp only [List.map_cons, List.map_nil, List.cons_append, List.nil_append, List.getD_cons_zero, e0, List.length_cons, List.length_nil]
    unfold runeB
    rw [if_pos (by omega)]
  · rw [if_neg (by assumption)] at hb
    split
    · rw [if_pos (by assumption)] at hb
      have e0 := tn (192 + r / 64) (hb _ (by simp))
      have e1 := tn (128 + r % 64) (hb _ (by simp))
      simp only [List.map_cons, List.map_nil, List.cons_append, List.nil_append, List.getD_cons_zero, List.getD_cons_succ, e0, e1, List.length_cons, List.length_nil]
      unfold runeB
      rw [if_neg (by omega), if_pos (by omega), if_pos (by omega)]
      refine Prod.ext ?_ ?_ <;> simp only <;> omega
    · rw [if_neg (by assumption)] at hb
      split
      · rw [if_pos (by assumption)] at hb
        have e0 := tn (224 + r / 4096) (hb _ (by simp))
        have e1 := tn (128 + r / 64 % 64) (hb _ (by simp))
        have e2 := tn (128 + r % 64) (hb _ (by simp))
        simp only [List.map_cons, List.map_nil, List.cons_append, List.nil_append, List.getD_cons_zero, List.getD_cons_succ, e0, e1, e2, List.length_cons, List.length_nil]
        unfold runeB
        rw [if_neg (by omega), if_neg (by omega), if_pos (by omega), if_pos (by omega)]
        refine Prod.ext ?_ ?_ <;> simp only <;> omega
      · rw [if_neg (by assumption)] at hb
        have e0 := tn (240 + r / 262144) (hb _ (by simp))
        have e1 := tn (128 + r / 4096 % 64) (hb _ (by simp))
        have e2 := tn (128 + r / 64 % 64) (hb _ (by simp))
        have e3 := tn (128 + r % 64) (hb _ (by simp))
        simp only [List.map_cons, List.map_nil, List.cons_append, List.nil_append, List.getD_cons_zero, List.getD_cons_succ, e0, e1, e2, e3, List.length_cons, List.length_nil]
        unfold runeB
        rw [if_neg (by omega), if_neg (by omega), if_neg (by omega), if_pos (by omega), if_pos (by omega)]
        refine Prod.ext ?_ ?_ <;> simp only <;> omega

/-- Of bytes: the rune is valid, is of so many bytes, and they are what is written of it. -/
theorem runeB_enc (m b0 b1 b2 b3 : Nat) (hm : 1 ≤ m) (h : (runeB m b0 b1 b2 b3).2 ≠ 0) :
    Val (runeB m b0 b1 b2 b3).1 ∧ (runeB m b0 b1 b2 b3).2 ≤ m ∧ [b0, b1, b2, b3].take (runeB m b0 b1 b2 b3).2 = encN (runeB m b0 b1 b2 b3).1 := by
  unfold Val
  unfold runeB at h ⊢
  split
  · rename_i c
    refine ⟨.inl (by simp only; omega), hm, ?_⟩
    unfold encN
    simp only
    rw [if_pos (by omega)]; rfl
  · rename_i c0
    rw [if_neg c0] at h
    split
    · rename_i c1
      rw [if_pos c1] at h
      split
      · rename_i c2
        refine ⟨.inl (by simp only; omega), by simp only; omega, ?_⟩
        unfold encN
        simp only
        rw [if_neg (by omega), if_pos (by omega)]
        exact row2 (by omega) (by omega)
      · rename_i c2; rw [if_neg c2] at h; exact absurd rfl h
    · rename_i c1
      rw [if_neg c1] at h
      split
      · rename_i c2
        rw [if_pos c2] at h
        split
        · rename_i c3
          refine ⟨by simp only; omega, by simp only; omega, ?_⟩
          unfold encN
          simp only
          rw [if_neg (by omega), if_neg (by omega), if_pos (by omega)]
          exact row3 (by omega) (by omega) (by omega)
        · rename_i c3; rw [if_neg c3] at h; exact absurd rfl h
      · rename_i c2
        rw [if_neg c2] at h
        split
        · rename_i c3
          rw [if_pos c3] at h
          split
          · rename_i c4
            refine ⟨by simp only; omega, by simp only; omega, ?_⟩
            unfold encN
            simp only
            rw [if_neg (by omega), if_neg (by omega), if_neg (by omega)]
            exact row4 (by omega) (by omega) (by omega) (by omega)
          · rename_i c4; rw [if_neg c4] at h; exact absurd rfl h
        · rename_i c3; rw [if_neg c3] at h; exact absurd rfl h

theorem take_getD (l : List UInt8) (k : Nat) (hk : k ≤ l.length) (h4 : k ≤ 4) : l.take k = ([(l.getD 0 0).toNat, (l.getD 1 0).toNat, (l.getD 2 0).toNat, (l.getD 3 0).toNat].take k).map Nat.toUInt8 := by
  match k, l, hk, h4 with
  | 0, _, _, _ => rfl
  | 1, a :: _, _, _ => simp
  | 2, a :: b :: _, _, _ => simp
  | 3, a :: b :: c :: _, _, _ => simp
  | 4, a :: b :: c :: d :: _, _, _ => simp
  | (k + 5), _, _, h4 => exact absurd h4 (by omega)
theorem runeB_four (m b0 b1 b2 b3 : Nat) : (runeB m b0 b1 b2 b3).2 ≤ 4 := by
  unfold runeB
  repeat' split
  all_goals simp
/-- What is decoded is what is written. -/
theorem enc_runeL (l : List UInt8) (hl : l ≠ []) (h : (runeL l).2 ≠ 0) : Val (runeL l).1 ∧ (runeL l).2 ≤ l.length ∧ l = encodeRune (runeL l).1 ++ l.drop (runeL l).2 ∧ (encodeRune (runeL l).1).length = (runeL l).2 := by
  have hm : 1 ≤ l.length := by cases l with | nil => exact absurd rfl hl | cons _ _ => simp
  obtain ⟨hv, hk, he⟩ := runeB_enc l.length (l.getD 0 0).toNat (l.getD 1 0).toNat (l.getD 2 0).toNat (l.getD 3 0).toNat hm h
  have h4 := runeB_four l.length (l.getD 0 0).toNat (l.getD 1 0).toNat (l.getD 2 0).toNat (l.getD 3 0).toNat
  have ht := take_getD l (runeL l).2 hk h4
  have e : l.take (runeL l).2 = encodeRune (runeL l).1 := by
    rw [ht, show encodeRune ((runeL l).1 : Int) = (encN (runeL l).1).map Nat.toUInt8 from enc_N _ hv]
    exact congrArg _ he
  refine ⟨hv, hk, ?_, ?_⟩
  · rw [← e, List.take_append_drop]
  · rw [← e, List.length_take]; exact Nat.min_eq_left hk
end Go.Proofs.YtmefepjjlhphnaaDoor
