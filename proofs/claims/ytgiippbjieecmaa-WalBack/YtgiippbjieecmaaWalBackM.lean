/- 'WalBack': an image into which bytes are written one by one: plain facts. -/
import Derived.Test.YtgiippbjieecmaaReadM
namespace Go.Proofs.Ytgiippbjieecmaa
set_option maxRecDepth 100000
open Go.RowKit
set_option linter.unusedVariables false

/-- The first k of ys, laid over zs from o on. -/
def over (zs : List Int) (o : Nat) (ys : List Int) (k : Nat) : List Int := splice zs o (ys.take k)
theorem over_zero (zs : List Int) (o : Nat) (ys : List Int) (h : o ≤ zs.length) : over zs o ys 0 = zs := by simp [over, splice]
theorem over_succ {zs : List Int} {o : Nat} {ys : List Int} {k : Nat} (hk : k < ys.length) (h : o + ys.length ≤ zs.length) : (over zs o ys k).set (o + k) (ys.getD k 0) = over zs o ys (k + 1) := by
  apply List.ext_getElem?
  intro i
  have hl : ∀ m, m ≤ ys.length → (ys.take m).length = m := fun m hm => by simp; omega
  rw [List.getElem?_set]
  unfold over
  have e1 : (splice zs o (ys.take k)).length = zs.length := splice_length (by rw [hl k (by omega)]; omega)
  have g : ∀ m, m ≤ ys.length → (splice zs o (ys.take m))[i]? = if o ≤ i ∧ i < o + m then ys[i - o]? else zs[i]? := fun m hm => by
    unfold splice
    rw [hl m hm]
    by_cases h1 : i < o
    · rw [List.getElem?_append_left (by simp; omega), List.getElem?_take, if_pos h1, if_neg (by omega)]
    · by_cases h2 : i < o + m
      · rw [List.getElem?_append_right (by simp; omega), List.length_take, Nat.min_eq_left (by omega), List.getElem?_append_left (by rw [hl m hm]; omega), List.getElem?_take, if_pos (by omega), if_pos ⟨by omega, h2⟩]
      · rw [List.getElem?_append_right (by simp; omega), List.length_take, Nat.min_eq_left (by omega), List.getElem?_append_right (by rw [hl m hm]; omega), hl m hm, List.getElem?_drop, if_neg (by omega)]
        congr 1
        omega
  rw [g k (by omega), g (k + 1) (by omega), e1]
  by_cases e : o + k = i
  · subst e
    rw [if_pos rfl, if_pos (by omega), if_pos (by omega), Nat.add_sub_cancel_left, List.getElem?_eq_getElem hk]
    simp [List.getD, List.getElem?_eq_getElem hk]
  · rw [if_neg e]
    by_cases h1 : o ≤ i ∧ i < o + k
    · rw [if_pos h1, if_pos (by omega)]
    · rw [if_neg h1, if_neg (by omega)]
theorem over_length {zs : List Int} {o : Nat} {ys : List Int} {k : Nat} (h : o + ys.length ≤ zs.length) (hk : k ≤ ys.length) : (over zs o ys k).length = zs.length := splice_length (by simp; omega)
theorem over_bytes {zs ys : List Int} (hz : Bytes zs) (hy : Bytes ys) (o k : Nat) : Bytes (over zs o ys k) := splice_bytes hz (hy.take k)
end Go.Proofs.Ytgiippbjieecmaa
