/- Lines of a device's datum: what a store turns. -/
import Derived.Test.YtgiippbjieecmaaDoes
namespace Go.Proofs.Ytgiippbjieecmaa
set_option maxRecDepth 100000
open Go.RowKit
set_option linter.unusedVariables false

theorem soilTo_lin (T : St) (a k j : Nat) : (soilTo T a k).lin j = if a ≤ j ∧ j < a + k then some (soilL T j) else T.lin j := by
  induction k with
  | zero => rw [if_neg (by omega)]; rfl
  | succ k ih =>
    show (if j = a + k then some (soilL (soilTo T a k) (a + k)) else (soilTo T a k).lin j) = _
    by_cases e : j = a + k
    · subst e
      rw [if_pos rfl, if_pos (by omega)]
      congr 1
      unfold soilL
      rw [ih, if_neg (by omega), (soilTo_seen T a k).1]
    · rw [if_neg e, ih]
      by_cases h : a ≤ j ∧ j < a + k
      · rw [if_pos h, if_pos (by omega)]
      · rw [if_neg h, if_neg (by omega)]
/-- Is line j one of n bytes' from i on? -/
def inL (i n j : Nat) : Prop := lineA i n ≤ j ∧ j < lineB i n
theorem inL_iff (i n j : Nat) : inL i n j ↔ ∃ t, t < n ∧ (i + t) / 64 = j := by
  unfold inL lineA lineB
  by_cases h0 : n = 0
  · subst h0
    simp
  · rw [if_neg h0, if_neg h0]
    constructor
    · rintro ⟨h1, h2⟩
      by_cases h3 : i ≤ 64 * j
      · exact ⟨64 * j - i, by omega, by omega⟩
      · exact ⟨0, by omega, by omega⟩
    · rintro ⟨t, h1, h2⟩
      omega
instance (i n j : Nat) : Decidable (inL i n j) := by unfold inL; infer_instance
theorem inL_succ (i k j : Nat) : inL i (k + 1) j ↔ inL i k j ∨ (i + k) / 64 = j := by
  rw [inL_iff, inL_iff]
  constructor
  · rintro ⟨t, h1, h2⟩
    by_cases e : t = k
    · subst e; exact Or.inr h2
    · exact Or.inl ⟨t, by omega, h2⟩
  · rintro (⟨t, h1, h2⟩ | h)
    · exact ⟨t, by omega, h2⟩
    · exact ⟨k, by omega, h⟩
theorem splice_get3 {L z : List Int} {i : Nat} (h : i + z.length ≤ L.length) (p : Nat) : (splice L i z)[p]? = if i ≤ p ∧ p < i + z.length then z[p - i]? else L[p]? := by
  have hl : (L.take i).length = i := by simp; omega
  unfold splice
  by_cases h1 : p < i
  · rw [List.getElem?_append_left (by omega), List.getElem?_take, if_pos h1, if_neg (by omega)]
  · rw [List.getElem?_append_right (by omega), hl]
    by_cases h2 : p < i + z.length
    · rw [List.getElem?_append_left (by omega), if_pos (by omega)]
    · rw [List.getElem?_append_right (by omega), List.getElem?_drop, if_neg (by omega)]
      congr 1
      omega
/-- A line that is not met stays. -/
theorem lineAt_out {L z : List Int} {i j : Nat} (h : i + z.length ≤ L.length) (hj : ¬ inL i z.length j) : lineAt (splice L i z) j = lineAt L j := by
  apply List.ext_getElem?
  intro t
  unfold lineAt
  rw [List.getElem?_take, List.getElem?_take]
  by_cases ht : t < 64
  · rw [if_pos ht, if_pos ht, List.getElem?_drop, List.getElem?_drop, splice_get3 h, if_neg]
    rintro ⟨h1, h2⟩
    exact hj ((inL_iff i z.length j).2 ⟨64 * j + t - i, by omega, by omega⟩)
  · rw [if_neg ht, if_neg ht]
theorem store_lin (T : St) (i : Nat) (ys : List Int) (j : Nat) : (storeS T i ys).lin j = if inL i ys.length j then some (soilL T j) else T.lin j := by
  show (soilTo T (lineA i ys.length) (lineB i ys.length - lineA i ys.length)).lin j = _
  rw [soilTo_lin]
  have hle : lineA i ys.length ≤ lineB i ys.length := by unfold lineA lineB; split <;> omega
  by_cases e : inL i ys.length j
  · have e' := e
    unfold inL at e'
    rw [if_pos e, if_pos (by omega)]
  · have e' := e
    unfold inL at e'
    rw [if_neg e, if_neg (by omega)]
theorem soil_last (T : St) (j : Nat) : (soilL T j).1 = lastOf T j ∧ (soilL T j).2 = false := by
  unfold soilL lastOf
  cases T.lin j with
  | none => exact ⟨rfl, rfl⟩
  | some x => exact ⟨rfl, rfl⟩
end Go.Proofs.Ytgiippbjieecmaa
