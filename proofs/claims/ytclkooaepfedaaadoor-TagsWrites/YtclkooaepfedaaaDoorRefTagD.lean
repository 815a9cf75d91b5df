/- joistref11.Write by its contract. -/
import Derived.Test.YtclkooaepfedaaaDoorRefTagC
import Derived.Test.YtclkooaepfedaaaDoorRefPut
import Derived.Test.YtclkooaepfedaaaDoorSpliceStep
import Derived.Test.YtclkooaepfedaaaDoorTagE
import Derived.Deep.RegionHeld3
namespace Go.Proofs.YtclkooaepfedaaaDoor
set_option maxRecDepth 100000
open Go.RowKit
set_option linter.unusedVariables false
set_option linter.unusedSimpArgs false
set_option maxRecDepth 100000

theorem put_own (B : Nat) (xo : Option Addr) (N c : Nat) (zs : List Int) (p : Nat) (x : Int) (w : World) (h : Own .u8 5 B w xo N c zs) (hN : N ≤ 1000000) (hp : 8 * p + 8 ≤ N) (hx0 : 0 ≤ x) (hx1 : x ≤ 4611686018427387903) :
    Calls Tryd.prog 32 #[.slice xo N c, .int .i64 p, .int .i64 x] w fun e w' => ∃ bo c', e = .returned (.tuple #[.slice bo N c', .int .i64 0]) ∧ Own .u8 5 w.heap.size w' bo N c' (putk zs (8 * p) x 8) ∧ Below w.heap.size w w' := by
  have hl := h.len
  refine (refput_ok xo N c zs p x w h.sl (by omega) hp hx0 hx1).mono ?_
  rintro e w' ⟨bo, m, c', rfl, k1, k2⟩
  have hm : m = N := by have := k1.len; rw [putk_length zs (8 * p) x 8 (by omega)] at this; omega
  subst hm
  exact ⟨bo, c', rfl, k1, k2⟩
/-- What is laid of a free block, as the document's writer goes. -/
def rg1 (f : Int) (g : List Spn) (i : Nat) : List (Nat × List Int) := [(8 * wd f (pa g i).pos, bys (64 * (pa g i).sz) 8), (8 * (wd f (pa g i).pos + 1), bys (nxL g i) 8), (8 * (wd f (pa g i).pos + 2), bys (ahL g i) 8), (8 * wd f ((pa g i).pos + (pa g i).sz - 1), bys (64 * (pa g i).sz) 8)]
def rgW (f : Int) (g : List Spn) (k : Nat) : List (Nat × List Int) := (List.range k).flatMap fun j => rg1 f g (g.length - 1 - j)
theorem rgW_succ (f : Int) (g : List Spn) (k : Nat) : rgW f g (k + 1) = rgW f g k ++ rg1 f g (g.length - 1 - k) := by simp [rgW, List.range_succ]
theorem rg_step (b : List Int) (f : Int) (g : List Spn) (k i : Nat) (hi : g.length - 1 - k = i) {p q : Nat} (hp : wd f (pa g i).pos = p) (hq : wd f ((pa g i).pos + (pa g i).sz - 1) = q) :
    putk (putk (putk (putk (puts b (rgW f g k)) (8 * p) (64 * (pa g i).sz) 8) (8 * (p + 1)) (nxL g i) 8) (8 * (p + 2)) (ahL g i) 8) (8 * q) (64 * (pa g i).sz) 8 = puts b (rgW f g (k + 1)) := by
  rw [rgW_succ, puts_append, hi]
  simp only [rg1, puts, List.foldl_cons, List.foldl_nil, hp, hq, putk_splice]
theorem mem_rgW {f : Int} {g : List Spn} {x : Nat × List Int} : x ∈ rgW f g g.length ↔ ∃ i, i < g.length ∧ x ∈ gW f (pa g i) (nxL g i) (ahL g i) := by
  have h1 : ∀ i, x ∈ rg1 f g i ↔ x ∈ gW f (pa g i) (nxL g i) (ahL g i) := fun i => by
    simp only [rg1, gW, List.mem_cons, List.not_mem_nil, or_false]
    constructor
    · rintro (h | h | h | h)
      · exact .inl h
      · exact .inr (.inr (.inl h))
      · exact .inr (.inr (.inr h))
      · exact .inr (.inl h)
    · rintro (h | h | h | h)
      · exact .inl h
      · exact .inr (.inr (.inr h))
      · exact .inr (.inl h)
      · exact .inr (.inr (.inl h))
  simp only [rgW, List.mem_flatMap, List.mem_range, h1]
  constructor
  · rintro ⟨j, hj, hx⟩
    exact ⟨g.length - 1 - j, by omega, hx⟩
  · rintro ⟨i, hi, hx⟩
    exact ⟨g.length - 1 - i, by omega, by rw [show g.length - 1 - (g.length - 1 - i) = i by omega]; exact hx⟩
theorem heap_rwrite {f t : Int} {l : List Blk} {ds : List (List Int)} (hr : RightP f t (spL l)) (hh : HoldB l ds) : HeapB f t l ds (puts (puts (List.replicate (8 * (t - f).toNat) 0) (usW f l ds l.length)) (rgW f (gapsL f t (spL l)) (gapsL f t (spL l)).length)) := by
  rw [← puts_append]
  have hm : ∀ x, x ∈ usW f l ds l.length ++ rgW f (gapsL f t (spL l)) (gapsL f t (spL l)).length ↔ Laid f t l ds x := fun x => by
    rw [List.mem_append, mem_rgW]
    simp only [usW, List.mem_flatMap, List.mem_range]
    exact Iff.rfl
  exact heap_puts hr hh (fun x hx => (hm x).1 hx) (fun x hx => (hm x).2 hx)
/-- The heads behind some blocks. -/
def hdK (g : List Spn) (k : Nat) : List Int := (List.range 7).map (fsL (g.drop (g.length - k)))
theorem hdK_length (g : List Spn) (k : Nat) : (hdK g k).length = 7 := by simp [hdK]
theorem hdK_zero (g : List Spn) : hdK g 0 = List.replicate 7 0 := by
  unfold hdK
  rw [Nat.sub_zero, List.drop_length]
  rfl
theorem hdK_full (g : List Spn) : hdK g g.length = hdL g := by simp [hdK, hdL]
theorem hdK_set {g : List Spn} {k i : Nat} (hi : g.length - 1 - k = i) (hk : k < g.length) : (hdK g k).set (lsN (pa g i).sz) ((pa g i).pos + 1) = hdK g (k + 1) := by
  have e : g.drop (g.length - (k + 1)) = pa g i :: g.drop (g.length - k) := by
    rw [drop_pa (by omega), show g.length - (k + 1) + 1 = g.length - k by omega, show g.length - (k + 1) = i by omega]
  apply List.ext_getElem?
  intro j
  unfold hdK
  rw [e, List.getElem?_set]
  by_cases hj : lsN (pa g i).sz = j
  · subst hj
    have := lsN_lt (pa g i).sz
    rw [if_pos rfl, if_pos (by simpa using this)]
    simp [this, fs_here]
  · rw [if_neg hj]
    by_cases h7 : j < 7
    · simp [h7, fs_next hj]
    · simp [h7]
theorem rwrite_bad (f t : Int) (ao : Option Addr) (n cap : Nat) (l : List Blk) (bo : Option Addr) (m cap' : Nat) (A : Nat → Option Addr) (N C : Nat → Nat) (ds : List (List Int)) (w : World) (h : Bs w ao n cap l) (hd : Rd w bo m cap' A N C ds) (hn : n ≤ 100000) (hm : m ≤ 9223372036854775807) (hR : ¬ (RightP f t (spL l) ∧ HoldB l ds)) :
    Calls Tryd.prog 12 #[.int .i64 f, .int .i64 t, .slice ao n cap, .slice bo m cap'] w fun e w' => e = .returned (.tuple #[.slice none 0 0, .slice none 0 0, .int .i64 1]) ∧ Below w.heap.size w w' := by
  have cR : Calls Tryd.prog 31 #[.int .i64 f, .int .i64 t, .slice ao n cap, .slice bo m cap'] w fun e w' => e = .returned (.bool false) ∧ Below w.heap.size w w' := by
    refine (rright_bs f t ao n cap l bo m cap' A N C ds w h hd hn hm).mono ?_
    rintro e w' ⟨⟨r, rfl, hr⟩, hb⟩
    cases r with
    | false => exact ⟨rfl, hb⟩
    | true => exact absurd (hr.1 rfl) hR
  clear h hd hR
  go_enter Tryd.func12, Tryd.ntmps12
  go_wp2_with (first
    | (go_at_call 31; with_reducible refine cR.mono ?_; rintro e w1 ⟨rfl, hb1⟩))
  go_ret3
  exact ⟨rfl, hb1⟩
end Go.Proofs.YtclkooaepfedaaaDoor
