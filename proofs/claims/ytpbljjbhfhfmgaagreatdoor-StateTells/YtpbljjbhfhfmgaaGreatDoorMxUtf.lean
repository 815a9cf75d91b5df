/- Utf: these texts, one behind another. -/
import GoSem.Core.Utf8
/- A text's runes: the model's decoding and the document's own. Plain facts. -/
namespace Go.Proofs.YtpbljjbhfhfmgaaGreatDoor
set_option maxRecDepth 100000
set_option linter.unusedVariables false

/-- The rune that the bytes b0 b1 b2 b3 begin, of which m are there, and how many bytes it has; (0, 0): none that is valid. -/
def runeB (m b0 b1 b2 b3 : Nat) : Nat × Nat :=
  if b0 < 128 then (b0, 1)
  else if 194 ≤ b0 ∧ b0 < 224 then
    (if 2 ≤ m ∧ 128 ≤ b1 ∧ b1 < 192 then ((b0 - 192) * 64 + (b1 - 128), 2) else (0, 0))
  else if 224 ≤ b0 ∧ b0 < 240 then
    (if 3 ≤ m ∧ (128 ≤ b1 ∧ b1 < 192) ∧ (128 ≤ b2 ∧ b2 < 192) ∧ 2048 ≤ ((b0 - 224) * 64 + (b1 - 128)) * 64 + (b2 - 128) ∧ ¬ (55296 ≤ ((b0 - 224) * 64 + (b1 - 128)) * 64 + (b2 - 128) ∧ ((b0 - 224) * 64 + (b1 - 128)) * 64 + (b2 - 128) ≤ 57343) then (((b0 - 224) * 64 + (b1 - 128)) * 64 + (b2 - 128), 3) else (0, 0))
  else if 240 ≤ b0 ∧ b0 < 245 then
    (if 4 ≤ m ∧ (128 ≤ b1 ∧ b1 < 192) ∧ (128 ≤ b2 ∧ b2 < 192) ∧ (128 ≤ b3 ∧ b3 < 192) ∧ 65536 ≤ (((b0 - 240) * 64 + (b1 - 128)) * 64 + (b2 - 128)) * 64 + (b3 - 128) ∧ (((b0 - 240) * 64 + (b1 - 128)) * 64 + (b2 - 128)) * 64 + (b3 - 128) ≤ 1114111 then ((((b0 - 240) * 64 + (b1 - 128)) * 64 + (b2 - 128)) * 64 + (b3 - 128), 4) else (0, 0))
  else (0, 0)
def runeN (s : ByteArray) (i : Nat) : Nat × Nat := runeB (s.size - i) (s.get! i).toNat (s.get! (i + 1)).toNat (s.get! (i + 2)).toNat (s.get! (i + 3)).toNat
/-- The model's decoding, over bytes. -/
def decB (c1 c2 c3 : Bool) (b0 b1 b2 b3 : Nat) : Nat × Nat :=
  if b0 < 0x80 then (b0, 1)
  else if b0 / 32 == 6 && c1 then
    (if (b0 % 32) * 64 + b1 % 64 ≥ 0x80 then ((b0 % 32) * 64 + b1 % 64, 2) else (65533, 1))
  else if b0 / 16 == 14 && c1 && c2 then
    (if (b0 % 16) * 4096 + (b1 % 64) * 64 + b2 % 64 ≥ 0x800 && Go.Utf8.valid ((b0 % 16) * 4096 + (b1 % 64) * 64 + b2 % 64 : Nat) then ((b0 % 16) * 4096 + (b1 % 64) * 64 + b2 % 64, 3) else (65533, 1))
  else if b0 / 8 == 30 && c1 && c2 && c3 then
    (if (b0 % 8) * 262144 + (b1 % 64) * 4096 + (b2 % 64) * 64 + b3 % 64 ≥ 0x10000 && Go.Utf8.valid ((b0 % 8) * 262144 + (b1 % 64) * 4096 + (b2 % 64) * 64 + b3 % 64 : Nat) then ((b0 % 8) * 262144 + (b1 % 64) * 4096 + (b2 % 64) * 64 + b3 % 64, 4) else (65533, 1))
  else (65533, 1)
theorem decode_decB (s : ByteArray) (i : Nat) : Go.Utf8.decode s i = decB (decide (i + 1 < s.size) && ((s.get! (i + 1)).toNat / 64 == 2)) (decide (i + 2 < s.size) && ((s.get! (i + 2)).toNat / 64 == 2)) (decide (i + 3 < s.size) && ((s.get! (i + 3)).toNat / 64 == 2)) (s.get! i).toNat (s.get! (i + 1)).toNat (s.get! (i + 2)).toNat (s.get! (i + 3)).toNat := rfl
theorem valid_iff (c : Nat) : Go.Utf8.valid (c : Int) = decide (c < 55296 ∨ (57344 ≤ c ∧ c ≤ 1114111)) := by
  unfold Go.Utf8.valid
  rw [Bool.eq_iff_iff]
  simp
  omega
set_option maxRecDepth 100000 in
theorem decB_rune (m b0 b1 b2 b3 : Nat) (hm : 1 ≤ m) (h0 : b0 < 256) (h1 : b1 < 256) (h2 : b2 < 256) (h3 : b3 < 256) :
    decB (decide (2 ≤ m) && (b1 / 64 == 2)) (decide (3 ≤ m) && (b2 / 64 == 2)) (decide (4 ≤ m) && (b3 / 64 == 2)) b0 b1 b2 b3 = if (runeB m b0 b1 b2 b3).2 = 0 then (65533, 1) else runeB m b0 b1 b2 b3 := by
  have g : ∀ (x y : Nat × Nat) (k : Nat × Nat), (y.2 = 0 → x = (65533, 1)) → (y.2 ≠ 0 → x = y) → x = if y.2 = 0 then (65533, 1) else y := fun x y k h1 h2 => by
    by_cases e : y.2 = 0
    · rw [if_pos e]; exact h1 e
    · rw [if_neg e]; exact h2 e
  refine g _ _ (0, 0) (fun h => ?_) (fun h => ?_)
  · unfold runeB at h
    unfold decB
    simp only [valid_iff, Bool.and_eq_true, decide_eq_true_eq, beq_iff_eq]
    repeat' split at h
    all_goals (first | (exfalso; simp at h; done) | skip)
    all_goals (repeat' split)
    all_goals (first | (exfalso; omega) | rfl)
  · unfold runeB at h ⊢
    unfold decB
    simp only [valid_iff, Bool.and_eq_true, decide_eq_true_eq, beq_iff_eq]
    repeat' split at h
    all_goals (first | (exfalso; simp at h; done) | skip)
    all_goals (repeat' split)
    all_goals (first | (exfalso; omega) | (refine Prod.ext ?_ ?_ <;> simp only <;> omega))
/-- The model decodes as the document says. -/
theorem decode_rune (s : ByteArray) (i : Nat) (hi : i < s.size) : Go.Utf8.decode s i = if (runeN s i).2 = 0 then (65533, 1) else runeN s i := by
  rw [decode_decB]
  have e : ∀ k, decide (i + k < s.size) = decide (k + 1 ≤ s.size - i) := fun k => by rw [Bool.eq_iff_iff]; simp; omega
  rw [e 1, e 2, e 3]
  exact decB_rune (s.size - i) _ _ _ _ (by omega) (UInt8.toNat_lt _) (UInt8.toNat_lt _) (UInt8.toNat_lt _) (UInt8.toNat_lt _)
end Go.Proofs.YtpbljjbhfhfmgaaGreatDoor
