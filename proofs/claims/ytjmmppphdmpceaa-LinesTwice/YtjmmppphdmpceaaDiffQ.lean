/- Changes of two images, laid over the first: plain facts. -/
import Derived.Test.YtjmmppphdmpceaaRight
namespace Go.Proofs.Ytjmmppphdmpceaa
open Go.RowKit
set_option linter.unusedVariables false

/-- The first k lines of ys, then xs's. -/
def mix (xs ys : List Int) (k : Nat) : List Int := ys.take (64 * k) ++ xs.drop (64 * k)
theorem take_lin (ys : List Int) (k : Nat) : ys.take (64 * (k + 1)) = ys.take (64 * k) ++ lin ys k := by
  rw [show 64 * (k + 1) = 64 * k + 64 by omega, List.take_add]
  rfl
theorem drop_lin (xs : List Int) (k : Nat) : xs.drop (64 * k) = lin xs k ++ xs.drop (64 * (k + 1)) := by
  rw [show 64 * (k + 1) = 64 * k + 64 by omega, ← List.drop_drop, lin, List.take_append_drop]
theorem mix_same {xs ys : List Int} {k : Nat} (h : lin xs k = lin ys k) : mix xs ys (k + 1) = mix xs ys k := by
  unfold mix
  rw [take_lin, drop_lin xs k, h, List.append_assoc]
theorem mix_else {xs ys : List Int} {k : Nat} (h : 64 * k + 64 ≤ xs.length) (hy : 64 * k + 64 ≤ ys.length) : splice (mix xs ys k) (64 * k) (lin ys k) = mix xs ys (k + 1) := by
  have hl : (ys.take (64 * k)).length = 64 * k := by simp; omega
  have hq : (lin ys k).length = 64 := lin_length hy
  unfold splice mix
  rw [List.take_append_of_le_length (by omega), List.take_of_length_le (by omega), hq, List.drop_append, hl, List.drop_of_length_le (by omega), List.nil_append, List.drop_drop, take_lin, List.append_assoc]
  rw [show 64 * k + (64 * k + 64 - 64 * k) = 64 * (k + 1) by omega]
theorem mix_full {xs ys : List Int} {N : Nat} (hx : xs.length = 64 * N) (hy : ys.length = 64 * N) : mix xs ys N = ys := by
  unfold mix
  rw [List.take_of_length_le (by omega), List.drop_of_length_le (by omega), List.append_nil]
theorem lay_diff {xs ys : List Int} {N : Nat} (hx : 64 * N ≤ xs.length) (hy : 64 * N ≤ ys.length) : layN xs (diffN xs ys N) = mix xs ys N := by
  induction N with
  | zero => simp [diffN, layN, mix]
  | succ k ih =>
    have := ih (by omega) (by omega)
    by_cases e : lin xs k = lin ys k
    · rw [diffN_same (eqB_t e), this, mix_same e]
    · rw [diffN_else (eqB_f e), layN_snoc, this]
      exact mix_else (by omega) (by omega)
theorem lay_diff_all {xs ys : List Int} {N : Nat} (hx : xs.length = 64 * N) (hy : ys.length = 64 * N) : layN xs (diffN xs ys N) = ys := by
  rw [lay_diff (by omega) (by omega), mix_full hx hy]
theorem diff_mem {xs ys : List Int} {N : Nat} (hy : 64 * N ≤ ys.length) {c : Chg} (hc : c ∈ diffN xs ys N) : ∃ k : Nat, k < N ∧ c = ((k : Int), lin ys k) ∧ ¬ lin xs k = lin ys k ∧ c.2.length = 64 := by
  induction N with
  | zero => simp [diffN] at hc
  | succ k ih =>
    by_cases e : lin xs k = lin ys k
    · rw [diffN_same (eqB_t e)] at hc
      obtain ⟨j, h1, h2⟩ := ih (by omega) hc
      exact ⟨j, by omega, h2⟩
    · rw [diffN_else (eqB_f e)] at hc
      rcases List.mem_append.1 hc with hc | hc
      · obtain ⟨j, h1, h2⟩ := ih (by omega) hc
        exact ⟨j, by omega, h2⟩
      · simp only [List.mem_singleton] at hc
        exact ⟨k, by omega, hc, e, by rw [hc]; exact lin_length (by omega)⟩
theorem mem_diff {xs ys : List Int} {N k : Nat} (hk : k < N) (h : ¬ lin xs k = lin ys k) : ((k : Int), lin ys k) ∈ diffN xs ys N := by
  induction N with
  | zero => omega
  | succ j ih =>
    simp only [diffN]
    by_cases e : k = j
    · subst e
      rw [eqB_f h]
      simp
    · exact List.mem_append_left _ (ih (by omega))
theorem diff_rise (xs ys : List Int) (N : Nat) (hy : 64 * N ≤ ys.length) : (diffN xs ys N).Pairwise (fun a b => a.1 < b.1) := by
  induction N with
  | zero => simp [diffN]
  | succ k ih =>
    by_cases e : lin xs k = lin ys k
    · rw [diffN_same (eqB_t e)]
      exact ih (by omega)
    · rw [diffN_else (eqB_f e), List.pairwise_append]
      refine ⟨ih (by omega), by simp, fun a ha b hb => ?_⟩
      simp only [List.mem_singleton] at hb
      obtain ⟨j, h1, h2, _⟩ := diff_mem (by omega) ha
      rw [hb, h2]
      simp only
      omega
theorem ok_diff {xs ys : List Int} {N : Nat} (hy : 64 * N ≤ ys.length) : okA N (diffN xs ys N) = true := by
  unfold okA
  rw [List.all_eq_true]
  intro c hc
  obtain ⟨k, h1, h2, _, h4⟩ := diff_mem hy hc
  refine fitsB_mk ⟨?_, ?_, h4⟩ <;> rw [h2] <;> simp only <;> omega
theorem right_diff {xs ys : List Int} {N : Nat} {n : Int} (hn : n = N) (hy : 64 * N ≤ ys.length) {D : Nat → ChD} {m : Nat} (h : saysN D m = diffN xs ys N) : rightB n D m = true := by
  subst hn
  have hr := diff_rise xs ys N hy
  rw [← h, List.pairwise_iff_getElem] at hr
  unfold rightB
  rw [List.all_eq_true]
  intro i hi
  have hi' : i < m := by simpa using hi
  have hm : (D i).says ∈ diffN xs ys N := by rw [← h]; exact says_mem D hi'
  obtain ⟨k, h1, h2, _, h4⟩ := diff_mem hy hm
  have hl : (D i).line = k := congrArg Prod.fst h2
  have hf : fitsB N (D i).line (D i).bz.length = true := fitsB_mk ⟨by omega, by omega, h4⟩
  have ha : aheadV D i < (D i).line := by
    cases i with
    | zero => simp only [aheadV]; omega
    | succ j =>
      have := hr j (j + 1) (by rw [saysN_length]; omega) (by rw [saysN_length]; omega) (by omega)
      have e1 := saysN_get D (show j < m by omega)
      have e2 := saysN_get D hi'
      rw [List.getElem?_eq_getElem (by rw [saysN_length]; omega)] at e1 e2
      rw [Option.some.inj e1, Option.some.inj e2] at this
      exact this
  unfold rtD
  rw [hf]
  simpa using ha
theorem diff_self (ys : List Int) (N : Nat) : diffN ys ys N = [] := by
  induction N with
  | zero => rfl
  | succ k ih => rw [diffN_same (eqB_t rfl), ih]
end Go.Proofs.Ytjmmppphdmpceaa
