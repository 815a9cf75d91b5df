/- Which lines are unlike; what changes make: plain facts. -/
import Derived.Test.YtgiippbjieecmaaChg
namespace Go.Proofs.Ytgiippbjieecmaa
set_option maxRecDepth 100000
open Go.RowKit
set_option linter.unusedVariables false

/-- The changes of the first k lines. -/
def diffN (a b : List Int) : Nat → List Chg
  | 0 => []
  | k + 1 => diffN a b k ++ (if eqB (lin a k) (lin b k) = true then [] else [((k : Int), lin b k)])
theorem diffN_same {a b : List Int} {k : Nat} (h : eqB (lin a k) (lin b k) = true) : diffN a b (k + 1) = diffN a b k := by simp [diffN, h]
theorem diffN_else {a b : List Int} {k : Nat} (h : eqB (lin a k) (lin b k) = false) : diffN a b (k + 1) = diffN a b k ++ [((k : Int), lin b k)] := by simp [diffN, h]
theorem diffN_length (a b : List Int) (k : Nat) : (diffN a b k).length ≤ k := by
  induction k with
  | zero => simp [diffN]
  | succ k ih =>
    simp only [diffN, List.length_append]
    split <;> simp <;> omega
theorem part_lin {w : World} {b off n cap i : Nat} {zs : List Int} (h : Sl .u8 w (some ⟨b, off, none⟩) n cap zs) (hi : 64 * i + 64 ≤ n) : Sl .u8 w (some ⟨b, off + 64 * i, none⟩) 64 (cap - 64 * i) (lin zs i) := by
  have hr := h.room
  have := h.sliced (64 * i) (64 * i + 64) (by omega) hi
  rw [if_neg (by omega), show 64 * i + 64 - 64 * i = 64 by omega] at this
  simpa [Addr.add_lit, lin] using this
end Go.Proofs.Ytgiippbjieecmaa
