/- Lines laid in any order, and twice: plain facts. -/
import Derived.Test.YtjmmppphdmpceaaDiffQ
namespace Go.Proofs.Ytjmmppphdmpceaa
open Go.RowKit
set_option linter.unusedVariables false

theorem splice_get {L z : List Int} {i : Nat} (h : i + z.length ≤ L.length) (p : Nat) : (splice L i z)[p]? = if i ≤ p ∧ p < i + z.length then z[p - i]? else L[p]? := by
  have hl : (L.take i).length = i := by simp; omega
  unfold splice
  by_cases h1 : p < i
  · rw [List.getElem?_append_left (by omega), List.getElem?_take, if_pos h1, if_neg (by omega)]
  · rw [List.getElem?_append_right (by omega), hl]
    by_cases h2 : p < i + z.length
    · rw [List.getElem?_append_left (by omega), if_pos (by omega)]
    · rw [List.getElem?_append_right (by omega), List.getElem?_drop, if_neg (by omega)]
      congr 1
      omega
theorem lin_get (L : List Int) (q t : Nat) : (lin L q)[t]? = if t < 64 then L[64 * q + t]? else none := by
  unfold lin
  rw [List.getElem?_take, List.getElem?_drop]
theorem lin_lay {L z : List Int} {k q : Nat} (h : 64 * k + 64 ≤ L.length) (hz : z.length = 64) : lin (splice L (64 * k) z) q = if q = k then z else lin L q := by
  apply List.ext_getElem?
  intro t
  rw [lin_get]
  by_cases e : q = k
  · subst e
    rw [if_pos rfl]
    by_cases ht : t < 64
    · rw [if_pos ht, splice_get (by omega), if_pos (by omega)]
      congr 1
      omega
    · rw [if_neg ht, List.getElem?_eq_none (by omega)]
  · rw [if_neg e, lin_get]
    by_cases ht : t < 64
    · rw [if_pos ht, if_pos ht, splice_get (by omega), if_neg (by omega)]
    · rw [if_neg ht, if_neg ht]
theorem lines_ext {a b : List Int} {N : Nat} (ha : a.length = 64 * N) (hb : b.length = 64 * N) (h : ∀ q, q < N → lin a q = lin b q) : a = b := by
  have key : ∀ k, k ≤ N → a.take (64 * k) = b.take (64 * k) := by
    intro k hk
    induction k with
    | zero => simp
    | succ k ih => rw [take_lin, take_lin, ih (by omega), h k (by omega)]
  have := key N (Nat.le_refl _)
  rwa [List.take_of_length_le (by omega), List.take_of_length_le (by omega)] at this
theorem fits_nat {N : Nat} {c : Chg} (h : fitsB N c.1 c.2.length = true) : ∃ k : Nat, k < N ∧ c.1 = k ∧ c.2.length = 64 := by
  obtain ⟨h1, h2, h3⟩ := fitsB_t h
  exact ⟨c.1.toNat, by omega, by omega, h3⟩
theorem lay_length {N : Nat} {cs : List Chg} (hc : okA N cs = true) {xs : List Int} (hx : xs.length = 64 * N) : (layN xs cs).length = 64 * N := by
  induction cs generalizing xs with
  | nil => exact hx
  | cons c r ih =>
    have h1 : okA N r = true := by unfold okA at hc ⊢; simp only [List.all_cons, Bool.and_eq_true] at hc; exact hc.2
    obtain ⟨k, hk, hk2, hk3⟩ := fits_nat (okA_take hc (List.mem_cons_self ..))
    show (layN (lay1 xs c) r).length = _
    refine ih h1 ?_
    unfold lay1
    rw [hk2, Int.toNat_natCast, splice_length (by omega), hx]
/-- What stands in line q, behind all: the last one's of that line. -/
def lastOf (cs : List Chg) (q : Nat) (d : List Int) : List Int := cs.foldl (fun d c => if c.1.toNat = q then c.2 else d) d
theorem lin_layN {N : Nat} {cs : List Chg} (hc : okA N cs = true) {xs : List Int} (hx : xs.length = 64 * N) (q : Nat) : lin (layN xs cs) q = lastOf cs q (lin xs q) := by
  induction cs generalizing xs with
  | nil => rfl
  | cons c r ih =>
    have h1 : okA N r = true := by unfold okA at hc ⊢; simp only [List.all_cons, Bool.and_eq_true] at hc; exact hc.2
    obtain ⟨k, hk, hk2, hk3⟩ := fits_nat (okA_take hc (List.mem_cons_self ..))
    have hl : (lay1 xs c).length = 64 * N := by unfold lay1; rw [hk2, Int.toNat_natCast, splice_length (by omega), hx]
    show lin (layN (lay1 xs c) r) q = lastOf r q (if c.1.toNat = q then c.2 else lin xs q)
    rw [ih h1 hl]
    congr 1
    unfold lay1
    rw [hk2, Int.toNat_natCast, lin_lay (by omega) hk3]
    by_cases e : q = k
    · rw [if_pos e, if_pos e.symm]
    · rw [if_neg e, if_neg (fun h => e h.symm)]
theorem lastOf_same {cs : List Chg} {q : Nat} {z d : List Int} (h : ∀ c ∈ cs, c.1.toNat = q → c.2 = z) (hd : d = z ∨ ∃ c ∈ cs, c.1.toNat = q) : lastOf cs q d = z := by
  induction cs generalizing d with
  | nil =>
    rcases hd with hd | ⟨c, hc, _⟩
    · exact hd
    · cases hc
  | cons c r ih =>
    show lastOf r q (if c.1.toNat = q then c.2 else d) = z
    refine ih (fun x hx => h x (List.mem_cons_of_mem _ hx)) ?_
    by_cases e : c.1.toNat = q
    · rw [if_pos e]; exact Or.inl (h c (List.mem_cons_self ..) e)
    · rw [if_neg e]
      rcases hd with hd | ⟨x, hx, hq⟩
      · exact Or.inl hd
      · rcases List.mem_cons.1 hx with rfl | hx
        · exact absurd hq e
        · exact Or.inr ⟨x, hx, hq⟩
/-- Changes towards one image, in any order. -/
theorem lay_target {xs zs : List Int} {N : Nat} (hx : xs.length = 64 * N) (hz : zs.length = 64 * N) {cs : List Chg} (h1 : ∀ c, c ∈ cs ↔ c ∈ diffN xs zs N) : okA N cs = true ∧ layN xs cs = zs := by
  have hok : okA N cs = true := by
    have := ok_diff (xs := xs) (ys := zs) (N := N) (by omega)
    unfold okA at this ⊢
    rw [List.all_eq_true] at this ⊢
    exact fun c hc => this c ((h1 c).1 hc)
  refine ⟨hok, lines_ext (lay_length hok hx) hz (fun q hq => ?_)⟩
  rw [lin_layN hok hx]
  refine lastOf_same (fun c hc hcq => ?_) ?_
  · obtain ⟨k, hk, e, _, _⟩ := diff_mem (by omega) ((h1 c).1 hc)
    rw [e] at hcq ⊢
    simp only [Int.toNat_natCast] at hcq
    rw [hcq]
  · by_cases e : lin xs q = lin zs q
    · exact Or.inl e
    · exact Or.inr ⟨_, (h1 _).2 (mem_diff hq e), by simp⟩
theorem lastOf_twice (cs : List Chg) (q : Nat) (d : List Int) : lastOf cs q (lastOf cs q d) = lastOf cs q d := by
  by_cases h : ∃ c ∈ cs, c.1.toNat = q
  · have key : ∀ (cs : List Chg), (∃ c ∈ cs, c.1.toNat = q) → ∀ d e, lastOf cs q d = lastOf cs q e := by
      intro cs
      induction cs with
      | nil => intro ⟨c, hc, _⟩; cases hc
      | cons c r ih =>
        intro hh d e
        show lastOf r q (if c.1.toNat = q then c.2 else d) = lastOf r q (if c.1.toNat = q then c.2 else e)
        by_cases e1 : c.1.toNat = q
        · rw [if_pos e1, if_pos e1]
        · rw [if_neg e1, if_neg e1]
          obtain ⟨x, hx, hq⟩ := hh
          rcases List.mem_cons.1 hx with rfl | hx
          · exact absurd hq e1
          · exact ih ⟨x, hx, hq⟩ d e
    exact key cs h _ _
  · have key : ∀ (cs : List Chg), (¬ ∃ c ∈ cs, c.1.toNat = q) → ∀ d, lastOf cs q d = d := by
      intro cs
      induction cs with
      | nil => intros; rfl
      | cons c r ih =>
        intro hh d
        show lastOf r q (if c.1.toNat = q then c.2 else d) = d
        rw [if_neg (fun e => hh ⟨c, List.mem_cons_self .., e⟩)]
        exact ih (fun ⟨x, hx, hq⟩ => hh ⟨x, List.mem_cons_of_mem _ hx, hq⟩) d
    rw [key cs h, key cs h]
theorem okA_append (N : Nat) (a b : List Chg) : okA N (a ++ b) = (okA N a && okA N b) := by simp [okA]
theorem layN_append (xs : List Int) (a b : List Chg) : layN xs (a ++ b) = layN (layN xs a) b := by simp [layN]
theorem lay_twice {N : Nat} {cs : List Chg} (hc : okA N cs = true) {xs : List Int} (hx : xs.length = 64 * N) : layN (layN xs cs) cs = layN xs cs := by
  have hl := lay_length hc hx
  refine lines_ext (lay_length hc hl) hl (fun q hq => ?_)
  rw [lin_layN hc hl, lin_layN hc hx, lastOf_twice]
end Go.Proofs.Ytjmmppphdmpceaa
