/- Who lies in which page, counted both ways, in plain words. -/
import Derived.Test.YtlghhhhgfnnjgaaDoorPlcN
namespace Go.Proofs.YtlghhhhgfnnjgaaDoor
set_option maxRecDepth 100000
set_option linter.unusedVariables false
set_option linter.unusedSimpArgs false

/-- How many of the first N pages an object has. -/
def hcN (o : Spn) : Nat → Nat
  | 0 => 0
  | N + 1 => hcN o N + (if HasC o (N : Nat) then 1 else 0)
theorem hcN_val {o : Spn} (ha : 0 ≤ pgA o) (hk : 0 ≤ pgK o) : ∀ N : Nat, (hcN o N : Int) = if (N : Int) ≤ pgA o then 0 else if (N : Int) ≤ pgA o + pgK o then N - pgA o else pgK o := by
  intro N
  induction N with
  | zero => rw [if_pos (by omega)]; rfl
  | succ N ih =>
    have e : (hcN o (N + 1) : Int) = hcN o N + (if HasC o (N : Nat) then 1 else 0) := by
      show ((hcN o N + (if HasC o (N : Nat) then 1 else 0) : Nat) : Int) = _
      split <;> omega
    rw [e, ih]
    by_cases h : HasC o (N : Nat)
    · rw [if_pos h]
      obtain ⟨h1, h2⟩ := h
      by_cases c : (N : Int) ≤ pgA o
      · rw [if_pos c, if_neg (by omega), if_pos (by omega)]; omega
      · rw [if_neg c, if_pos (by omega), if_neg (by omega), if_pos (by omega)]; omega
    · rw [if_neg h]
      have h' : ¬ (pgA o ≤ (N : Int) ∧ (N : Int) < pgA o + pgK o) := h
      by_cases c : (N : Int) ≤ pgA o
      · by_cases c2 : (N : Int) = pgA o
        · have : pgK o = 0 := by omega
          rw [if_pos c, if_neg (by omega), if_neg (by omega)]; omega
        · rw [if_pos c, if_pos (by omega)]; omega
      · by_cases c3 : (N : Int) ≤ pgA o + pgK o
        · rw [if_neg c, if_pos c3, if_neg (by omega), if_neg (by omega)]; omega
        · rw [if_neg c, if_neg c3, if_neg (by omega), if_neg (by omega)]; omega
theorem hcN_all {P : Nat} {o : Spn} (h : InC P o) : (hcN o P : Int) = pgK o := by
  obtain ⟨h1, h2⟩ := h.within
  obtain ⟨h3, _⟩ := h.pgk
  rw [hcN_val h1 (by omega) P, if_neg (by omega)]
  by_cases c : (P : Int) ≤ pgA o + pgK o
  · rw [if_pos c]; omega
  · rw [if_neg c]
/-- The mates of the first N pages, of the first n objects. -/
def smN (l : List Spn) (n : Nat) : Nat → Nat
  | 0 => 0
  | N + 1 => smN l n N + (mtK l (N : Nat) n).length
theorem mt_more (l : List Spn) (p : Int) (n : Nat) : (mtK l p (n + 1)).length = (mtK l p n).length + (if HasC (pa l n) p then 1 else 0) := by
  by_cases h : HasC (pa l n) p
  · rw [mt_yes h, if_pos h]; simp
  · rw [mt_no h, if_neg h]; rfl
theorem smN_more (l : List Spn) (n : Nat) : ∀ N, smN l (n + 1) N = smN l n N + hcN (pa l n) N := by
  intro N
  induction N with
  | zero => rfl
  | succ N ih =>
    show smN l (n + 1) N + (mtK l (N : Nat) (n + 1)).length = (smN l n N + (mtK l (N : Nat) n).length) + (hcN (pa l n) N + (if HasC (pa l n) (N : Nat) then 1 else 0))
    rw [ih, mt_more]
    omega
theorem smN_none (l : List Spn) : ∀ N, smN l 0 N = 0 := by
  intro N
  induction N with
  | zero => rfl
  | succ N ih =>
    show smN l 0 N + (mtK l (N : Nat) 0).length = 0
    rw [ih]
    rfl
/-- The pages of the first n objects. -/
def wnN (l : List Spn) : Nat → Int
  | 0 => 0
  | n + 1 => wnN l n + pgK (pa l n)
theorem both_ways {P : Nat} {l : List Spn} (h : ∀ o ∈ l, InC P o) : ∀ n, n ≤ l.length → (smN l n P : Int) = wnN l n := by
  intro n
  induction n with
  | zero => intro _; rw [smN_none]; rfl
  | succ n ih =>
    intro hn
    rw [smN_more]
    show ((smN l n P + hcN (pa l n) P : Nat) : Int) = wnN l n + pgK (pa l n)
    rw [← ih (by omega), ← hcN_all (h _ (pa_mem (by omega)))]
    omega
theorem smN_le (l : List Spn) (n : Nat) : ∀ N, smN l n N ≤ n * N := by
  intro N
  induction N with
  | zero => exact Nat.le_refl _
  | succ N ih =>
    show smN l n N + (mtK l (N : Nat) n).length ≤ n * (N + 1)
    have := mt_len l (N : Nat) n
    rw [Nat.mul_succ]
    omega
theorem wnN_rg {P : Nat} {l : List Spn} (h : ∀ o ∈ l, InC P o) : ∀ n, n ≤ l.length → 0 ≤ wnN l n ∧ wnN l n ≤ 8 * n := by
  intro n
  induction n with
  | zero => intro _; exact ⟨Int.le_refl _, by show (0 : Int) ≤ _; omega⟩
  | succ n ih =>
    intro hn
    have h1 := ih (by omega)
    have h2 := (h _ (pa_mem (l := l) (i := n) (by omega))).pgk
    show 0 ≤ wnN l n + pgK (pa l n) ∧ wnN l n + pgK (pa l n) ≤ _
    omega
/-- A page with no mates is free, and one of a large object has one mate. -/
theorem mt_none_iff {P : Int} {l : List Spn} (h : RightO P l) (p : Int) : (mtK l p l.length).length = 0 ↔ kdL l p = -1 := by
  rw [kdL_neg h]
  constructor
  · intro e o ho hp
    obtain ⟨i, hi, rfl⟩ := mem_pa ho
    have : ((i : Nat) : Int) ∈ mtK l p l.length := mt_mem.2 ⟨i, hi, hp, rfl⟩
    rw [List.eq_nil_of_length_eq_zero e] at this
    exact (List.not_mem_nil this).elim
  · intro hn
    rw [List.length_eq_zero_iff]
    refine List.eq_nil_iff_forall_not_mem.2 fun x hx => ?_
    obtain ⟨i, hi, hp, _⟩ := mt_mem.1 hx
    exact hn _ (pa_mem hi) hp
theorem mt_get {l : List Spn} {p : Int} {n k : Nat} (hk : k < (mtK l p n).length) : ∃ j : Nat, j < n ∧ HasC (pa l j) p ∧ (mtK l p n).getD k 0 = j := by
  have : (mtK l p n).getD k 0 ∈ mtK l p n := by
    simp [List.getD, hk]
  obtain ⟨j, h1, h2, h3⟩ := mt_mem.1 this
  exact ⟨j, h1, h2, h3⟩
theorem mt_before {l : List Spn} {p : Int} {n k : Nat} (hk : k + 1 < (mtK l p n).length) : (mtK l p n).getD k 0 < (mtK l p n).getD (k + 1) 0 := by
  have h := List.pairwise_iff_getElem.1 (mt_rise l p n) k (k + 1) (by omega) hk (by omega)
  simpa [List.getD, hk, show k < (mtK l p n).length by omega] using h
theorem mt_one {P : Int} {l : List Spn} (h : RightO P l) {p : Int} (hp : 6 ≤ kdL l p) : (mtK l p l.length).length = 1 := by
  have h0 : (mtK l p l.length).length ≠ 0 := fun e => by have := (mt_none_iff h p).1 e; omega
  apply Decidable.byContradiction
  intro hn
  obtain ⟨j0, a1, a2, a3⟩ := mt_get (l := l) (p := p) (n := l.length) (k := 0) (by omega)
  obtain ⟨j1, b1, b2, b3⟩ := mt_get (l := l) (p := p) (n := l.length) (k := 1) (by omega)
  have hlt := mt_before (l := l) (p := p) (n := l.length) (k := 0) (by omega)
  rw [a3, b3] at hlt
  obtain ⟨s1, s2, _⟩ := (h.ne a1 b1 (by omega)).share a2 b2
  rw [kdL_has h (pa_mem a1) a2] at hp
  have := (kdO_lt (o := pa l j0) (p := p)).2 s1
  omega
theorem mt_out {P : Int} {l : List Spn} (h : RightO P l) {p : Int} (hp : p < 0 ∨ P ≤ p) : mtL P l p = [] := by
  rw [mt_t h]
  refine List.eq_nil_iff_forall_not_mem.2 fun x hx => ?_
  obtain ⟨i, hi, hh, _⟩ := mt_mem.1 hx
  have := (h.lie _ (pa_mem hi)).has hh
  omega
end Go.Proofs.YtlghhhhgfnnjgaaDoor
