/- From tag to tag: what a walk over a heap's bytes meets; beginnings of the laws. -/
import Derived.Test.YtclkooaepfedaaaDoorSmallTag
namespace Go.Proofs.YtclkooaepfedaaaDoor
set_option maxRecDepth 100000
open Go.RowKit
set_option linter.unusedVariables false
set_option linter.unusedSimpArgs false
set_option maxRecDepth 100000

theorem few_yes (bo : Option Addr) (m cap' : Nat) (A : Nat → Option Addr) (N C : Nat → Nat) (ds : List (List Int)) (w : World) (hd : Rd w bo m cap' A N C ds) (hm : m ≤ 9223372036854775807) (hF : FewD ds) :
    Calls Tryd.prog 9 #[.slice bo m cap'] w fun e w' => e = .returned (.bool true) ∧ w = w' := by
  refine (few_rd bo m cap' A N C ds w hd hm).mono ?_
  rintro e w' ⟨⟨r, rfl, hr⟩, rfl⟩
  rw [hr.2 hF]
  exact ⟨rfl, rfl⟩
theorem few_no (bo : Option Addr) (m cap' : Nat) (A : Nat → Option Addr) (N C : Nat → Nat) (ds : List (List Int)) (w : World) (hd : Rd w bo m cap' A N C ds) (hm : m ≤ 9223372036854775807) (hF : ¬ FewD ds) :
    Calls Tryd.prog 9 #[.slice bo m cap'] w fun e w' => e = .returned (.bool false) ∧ w = w' := by
  refine (few_rd bo m cap' A N C ds w hd hm).mono ?_
  rintro e w' ⟨⟨r, rfl, hr⟩, rfl⟩
  cases r with
  | false => exact ⟨rfl, rfl⟩
  | true => exact absurd (hr.1 rfl) hF
theorem getB_of {zs : List Int} {x : Int} (h : getN zs x ≠ 0) : getB zs x = true := by
  have hi := getN_in h
  have hh : hasB zs.length x = true := hasB_t hi.1 hi.2
  unfold getN at h
  rw [if_pos hh] at h
  unfold getB
  rw [hh, Bool.true_and]
  by_cases c : le (cut zs x.toNat) ≤ 4611686018427387903
  · exact wB_t c
  · exact absurd (wN_f c) h
/-- Where the next used block begins, or the end. -/
def nxt (l : List Blk) (t : Int) (m : Nat) : Int := if m < l.length then (ba l m).pos else t
theorem nxt_t {l : List Blk} {t : Int} {m : Nat} (h : m < l.length) : nxt l t m = (ba l m).pos := if_pos h
theorem nxt_f {l : List Blk} {t : Int} {m : Nat} (h : ¬ m < l.length) : nxt l t m = t := if_neg h
/-- The walk stands at a block's beginning, m used ones behind it. -/
structure WkI (f t : Int) (zs : List Int) (l : List Blk) (p : Int) (m : Nat) (fr : Bool) : Prop where
  lo : 0 ≤ p
  hi : p ≤ t - f
  md : (f + p) % 4 = 0
  le : m ≤ l.length
  lay : LayP (f + p) t (spL (l.drop m))
  tags : Tags f t zs (f + p) (l.drop m)
  adj : fr = true → nxt l t m = f + p
theorem spL_drop {l : List Blk} {m : Nat} (h : m < l.length) : spL (l.drop m) = (ba l m).spn :: spL (l.drop (m + 1)) := by rw [drop_ba h]; rfl
theorem WkI.next {f t : Int} {zs : List Int} {l : List Blk} {p : Int} {m : Nat} {fr : Bool} (h : WkI f t zs l p m fr) : f + p ≤ nxt l t m ∧ nxt l t m ≤ t ∧ (t % 4 = 0 → nxt l t m % 4 = 0) := by
  by_cases hm : m < l.length
  · rw [nxt_t hm]
    have := h.lay
    rw [spL_drop hm] at this
    obtain ⟨⟨a1, a2, a3, a4, a5⟩, _⟩ := this
    simp only [Blk.spn] at a1 a2 a3 a4 a5
    exact ⟨a1, by omega, fun _ => a2⟩
  · rw [nxt_f hm]
    have := h.hi
    exact ⟨by omega, Int.le_refl _, fun h => h⟩
/-- A free block stands here. -/
theorem WkI.gap {f t : Int} {zs : List Int} {l : List Blk} {p : Int} {m : Nat} {fr : Bool} (h : WkI f t zs l p m fr) (ht : t % 4 = 0) (hp : f + p < nxt l t m) :
    fr = false ∧ getN zs p = 64 * (nxt l t m - (f + p)) ∧ getN zs (p + (nxt l t m - (f + p)) - 1) = 64 * (nxt l t m - (f + p)) ∧ 4 ≤ nxt l t m - (f + p) ∧ WkI f t zs l (nxt l t m - f) m true := by
  have hn := h.next
  have hmd := h.md
  have h4 := hn.2.2 ht
  have hf : ∀ s ∈ gapsL (f + p) t (spL (l.drop m)), getN zs (s.pos - f) = 64 * s.sz ∧ getN zs (s.pos + s.sz - 1 - f) = 64 * s.sz := h.tags.free
  have hin : (⟨f + p, nxt l t m - (f + p)⟩ : Spn) ∈ gapsL (f + p) t (spL (l.drop m)) := by
    by_cases hm : m < l.length
    · rw [nxt_t hm] at hp ⊢
      rw [spL_drop hm, gapsL]
      exact List.mem_append_left _ (by simp only [Blk.spn]; rw [gap1_t hp]; simp)
    · rw [nxt_f hm] at hp ⊢
      rw [List.drop_of_length_le (by omega)]
      simp [spL, gapsL, gap1_t hp]
  have hg := hf _ hin
  simp only at hg
  refine ⟨?_, ?_, ?_, by omega, ?_⟩
  · cases fr with
    | false => rfl
    | true => have := h.adj rfl; omega
  · rw [← hg.1]; congr 1; omega
  · rw [← hg.2]; congr 1; omega
  · have e : f + (nxt l t m - f) = nxt l t m := by omega
    refine ⟨by have := h.lo; omega, by omega, by rw [e]; exact h4, h.le, ?_, ⟨h.tags.used, ?_⟩, fun _ => e.symm⟩
    · rw [e]
      by_cases hm : m < l.length
      · rw [nxt_t hm]
        have := h.lay
        rw [spL_drop hm] at this ⊢
        exact ⟨⟨Int.le_refl _, this.1.2⟩, this.2⟩
      · rw [List.drop_of_length_le (by omega)]; trivial
    · intro s hs
      rw [e] at hs
      refine hf s ?_
      by_cases hm : m < l.length
      · rw [nxt_t hm, spL_drop hm, gapsL] at hs
        simp only [Blk.spn] at hs
        rw [gap1_f (Int.lt_irrefl _), List.nil_append] at hs
        rw [spL_drop hm, gapsL]
        exact List.mem_append_right _ hs
      · rw [nxt_f hm, List.drop_of_length_le (by omega)] at hs
        simp only [spL, List.map_nil, gapsL] at hs
        rw [gap1_f (Int.lt_irrefl _)] at hs
        cases hs
/-- A used block stands here. -/
theorem WkI.used {f t : Int} {zs : List Int} {l : List Blk} {p : Int} {m : Nat} {fr : Bool} (h : WkI f t zs l p m fr) (hp : ¬ f + p < nxt l t m) (hat : p < t - f) :
    m < l.length ∧ (ba l m).pos = f + p ∧ getN zs p = (ba l m).tag ∧ getN zs (p + (ba l m).sz - 1) = (ba l m).tag ∧ 4 ≤ (ba l m).sz ∧ (ba l m).sz ≤ t - f - p ∧ 0 ≤ (ba l m).ix ∧ (ba l m).ix < 32 ∧ WkI f t zs l (p + (ba l m).sz) (m + 1) false := by
  have hn := h.next
  have hm : m < l.length := by
    by_cases hm : m < l.length
    · exact hm
    · rw [nxt_f hm] at hp; omega
  rw [nxt_t hm] at hp hn
  have hpos : (ba l m).pos = f + p := by omega
  have hl := h.lay
  rw [spL_drop hm] at hl
  obtain ⟨⟨a1, a2, a3, a4, a5⟩, hl2⟩ := hl
  simp only [Blk.spn, Spn.fin] at a1 a2 a3 a4 a5 hl2
  have hu := h.tags.used (ba l m) (by rw [drop_ba hm]; simp)
  refine ⟨hm, hpos, by rw [← hu.1]; congr 1; omega, by rw [← hu.2.1]; congr 1; omega, a3, by omega, hu.2.2.1, hu.2.2.2, ?_⟩
  have e : f + (p + (ba l m).sz) = (ba l m).pos + (ba l m).sz := by omega
  refine ⟨by have := h.lo; omega, by omega, by rw [e]; omega, hm, by rw [e]; exact hl2, ⟨fun s hs => h.tags.used s (by rw [drop_ba hm]; simp [hs]), fun s hs => ?_⟩, (by intro h; cases h)⟩
  rw [e] at hs
  refine h.tags.free s ?_
  rw [spL_drop hm, gapsL]
  exact List.mem_append_right _ hs
theorem WkI.end {f t : Int} {zs : List Int} {l : List Blk} {p : Int} {m : Nat} {fr : Bool} (h : WkI f t zs l p m fr) (hp : ¬ p < t - f) : p = t - f ∧ m = l.length := by
  have hh := h.hi
  refine ⟨by omega, ?_⟩
  by_cases hm : m < l.length
  · have hl := h.lay
    rw [spL_drop hm] at hl
    obtain ⟨⟨a1, a2, a3, a4, a5⟩, _⟩ := hl
    simp only [Blk.spn] at a1 a3 a4
    omega
  · have := h.le
    omega
theorem WkI.start {f t : Int} {zs : List Int} {l : List Blk} {ds : List (List Int)} (h : HeapB f t l ds zs) : WkI f t zs l 0 0 false := by
  obtain ⟨h0, h1, h2, h3, h4⟩ := h.right.1
  refine ⟨Int.le_refl _, by omega, by simpa using h3, Nat.zero_le _, by simpa using h.right.2, by simpa using h.tags, (by intro h; cases h)⟩
end Go.Proofs.YtclkooaepfedaaaDoor
