/- joistlaw09.small and few by their contracts. -/
import Derived.Test.YtmefepjjlhphnaaDoorRootC
namespace Go.Proofs.YtmefepjjlhphnaaDoor
set_option maxRecDepth 100000
open Go.RowKit
set_option linter.unusedVariables false
set_option linter.unusedSimpArgs false
set_option maxRecDepth 100000

def tA : ByteArray := ⟨#[97]⟩
def tB : ByteArray := ⟨#[98]⟩
def tC : ByteArray := ⟨#[99]⟩
def smR0 : List Rt := [Rt.z, Rt.z]
def smR1 : List Rt := [⟨tA, 1, 2⟩, Rt.z]
def smR2 : List Rt := [⟨tA, 1, 2⟩, ⟨tB, 0, 0⟩]
theorem small_newR (w : World) : Calls Tryd.prog 16 #[.int .i64 2] w fun e w' => ∃ ao c, e = .returned (.tuple #[.slice ao 2 c, .int .i64 0]) ∧ OwR w.heap.size w' ao 2 c smR0 ∧ Below w.heap.size w w' := by
  refine (newR_any 2 w).mono ?_
  rintro e w' ⟨ao, m, c, rfl, ho, hb⟩
  have e1 : nrE 2 = 0 := by decide
  have e2 : nrL 2 = smR0 := by decide
  rw [e2] at ho
  rw [e1]
  obtain rfl : 2 = m := ho.len
  exact ⟨ao, c, rfl, ho, hb⟩
theorem small_seta (ao : Option Addr) (c : Nat) (w : World) (h : Rs w ao 2 c smR0) : Calls Tryd.prog 17 #[.slice ao 2 c, .string ⟨#[97]⟩, .agg #[.int .i64 1, .int .i64 2]] w fun e w' => ∃ bo c, e = .returned (.tuple #[.slice bo 2 c, .int .i64 0]) ∧ OwR w.heap.size w' bo 2 c smR1 ∧ Below w.heap.size w w' := by
  refine (set_rs ao 2 c smR0 tA 1 2 w h (by omega) (by decide)).mono ?_
  rintro e w' ⟨bo, m, c, rfl, ho, hb⟩
  have e1 : stE smR0 tA 1 2 = 0 := by decide
  have e2 : stL smR0 tA 1 2 = smR1 := by decide
  rw [e2] at ho
  rw [e1]
  obtain rfl : 2 = m := ho.len
  exact ⟨bo, c, rfl, ho, hb⟩
theorem small_setb (ao : Option Addr) (c : Nat) (w : World) (h : Rs w ao 2 c smR1) : Calls Tryd.prog 17 #[.slice ao 2 c, .string ⟨#[98]⟩, .agg #[.int .i64 0, .int .i64 0]] w fun e w' => ∃ bo c, e = .returned (.tuple #[.slice bo 2 c, .int .i64 0]) ∧ OwR w.heap.size w' bo 2 c smR2 ∧ Below w.heap.size w w' := by
  refine (set_rs ao 2 c smR1 tB 0 0 w h (by omega) (by decide)).mono ?_
  rintro e w' ⟨bo, m, c, rfl, ho, hb⟩
  have e1 : stE smR1 tB 0 0 = 0 := by decide
  have e2 : stL smR1 tB 0 0 = smR2 := by decide
  rw [e2] at ho
  rw [e1]
  obtain rfl : 2 = m := ho.len
  exact ⟨bo, c, rfl, ho, hb⟩
theorem small_setc (ao : Option Addr) (c : Nat) (w : World) (h : Rs w ao 2 c smR2) : Calls Tryd.prog 17 #[.slice ao 2 c, .string ⟨#[99]⟩, .agg #[.int .i64 0, .int .i64 0]] w fun e w' => ∃ bo m c, e = .returned (.tuple #[.slice bo m c, .int .i64 9]) ∧ Below w.heap.size w w' := by
  refine (set_rs ao 2 c smR2 tC 0 0 w h (by omega) (by decide)).mono ?_
  rintro e w' ⟨bo, m, c, rfl, ho, hb⟩
  have e1 : stE smR2 tC 0 0 = 9 := by decide
  rw [e1]
  exact ⟨bo, m, c, rfl, hb⟩
theorem small_geta (ao : Option Addr) (c : Nat) (w : World) (h : Rs w ao 2 c smR1) : Calls Tryd.prog 18 #[.slice ao 2 c, .string ⟨#[97]⟩] w fun e w' => e = .returned (.tuple #[.agg #[.int .i64 1, .int .i64 2], .int .i64 0]) ∧ Below w.heap.size w w' := by
  have := get_rs ao 2 c smR1 tA w h (by omega) (by decide)
  rwa [show gtI smR1 tA = 1 by decide, show gtG smR1 tA = 2 by decide, show hvE smR1 tA = 0 by decide] at this
theorem small_getb (ao : Option Addr) (c : Nat) (w : World) (h : Rs w ao 2 c smR1) : Calls Tryd.prog 18 #[.slice ao 2 c, .string ⟨#[98]⟩] w fun e w' => e = .returned (.tuple #[.agg #[.int .i64 0, .int .i64 0], .int .i64 11]) ∧ Below w.heap.size w w' := by
  have := get_rs ao 2 c smR1 tB w h (by omega) (by decide)
  rwa [show gtI smR1 tB = 0 by decide, show gtG smR1 tB = 0 by decide, show hvE smR1 tB = 11 by decide] at this
theorem nextR {w a : World} (h : Below w.heap.size w a) (o : Obj) : Below w.heap.size w (a.alloc o) := h.alloc h.size o
theorem below_moreR (w : World) (o : Obj) : Below w.heap.size w (w.alloc o) := (Below.refl _ _).alloc (Nat.le_refl _) _
set_option maxHeartbeats 1000000 in
theorem smallR_any (w : World) : Calls Tryd.prog 5 #[] w fun e w' => e = .returned (.bool true) ∧ Below w.heap.size w w' := by
  go_enter Tryd.func5, Tryd.ntmps5
  go_wp2_with (first
    | (go_at_call 16; with_reducible refine (small_newR _).mono ?_; rintro e w1 ⟨a1, k1, rfl, ho1, hb1⟩)
    | (go_at_call 17; with_reducible refine (small_seta a1 k1 w1 ho1.rs).mono ?_; rintro e w2 ⟨a2, k2, rfl, ho2, hb2⟩; have b2 := next hb1 hb2)
    | (go_at_call 18; with_reducible refine (small_geta a2 k2 w2 ho2.rs).mono ?_; rintro e w3 ⟨rfl, hb3⟩; have b3 := nextR (next b2 hb3) (.cells #[.int .i64 1, .int .i64 2] 41); have o3 := (ho2.below hb3).below (below_moreR w3 (.cells #[.int .i64 1, .int .i64 2] 41)); have x3 := bxR_new w3 1 2)
    | (go_at_call 18; with_reducible refine (small_getb a2 k2 _ o3.rs).mono ?_; rintro e w4 ⟨rfl, hb4⟩; have b4 := nextR (next b3 hb4) (.cells #[.int .i64 0, .int .i64 0] 41); have o4 := (o3.below hb4).below (below_moreR w4 (.cells #[.int .i64 0, .int .i64 0] 41)); have x4 := (x3.kept hb4).more (.cells #[.int .i64 0, .int .i64 0] 41))
    | (go_at_call 17; with_reducible refine (small_setb a2 k2 _ o4.rs).mono ?_; rintro e w5 ⟨a5, k5, rfl, ho5, hb5⟩; have b5 := next b4 hb5; have x5 := x4.kept hb5)
    | (go_at_call 17; with_reducible refine (small_setc a5 k5 w5 ho5.rs).mono ?_; rintro e w6 ⟨a6, m6, k6, rfl, hb6⟩; have b6 := next b5 hb6; obtain ⟨u0, u1, _, _⟩ := (x5.kept hb6).cells))
  go_ret
  exact ⟨rfl, b6⟩
/-- Short enough to be played? -/
def FewR (l : List Rt) : Prop := l.length ≤ 40 ∧ ∀ i, i < l.length → (ra l i).nm.size ≤ 1024
instance (l : List Rt) : Decidable (FewR l) := by unfold FewR; infer_instance
def fewB (l : List Rt) : Bool := decide (FewR l)
theorem fewB_t {l : List Rt} (h : FewR l) : fewB l = true := decide_eq_true h
theorem fewB_f {l : List Rt} (h : ¬ FewR l) : fewB l = false := decide_eq_false h
theorem few_rs (ao : Option Addr) (n cap : Nat) (l : List Rt) (w : World) (h : Rs w ao n cap l) (hn : n ≤ 9223372036854775806) :
    Calls Tryd.prog 6 #[.slice ao n cap] w fun e w' => e = .returned (.bool (fewB l)) ∧ w = w' := by
  have hl := h.len
  go_enter Tryd.func6, Tryd.ntmps6
  go_wp2
  go_loop [3] (fun t => ∃ k : Nat, k ≤ n ∧ t = .int .i64 k ∧ Hid (∀ i, i < k → (ra l i).nm.size ≤ 1024)) (fun t => n - (intOf t).toNat)
  case atStart => exact ⟨0, Nat.zero_le _, rfl, hid (fun i hi => by omega)⟩
  case round =>
    obtain ⟨k, hk, rfl, HK⟩ := hrel
    by_cases hlt : k < n
    · obtain ⟨b, off, rfl, _, _⟩ := h.here (by omega)
      obtain ⟨c0, c1, c2⟩ := h.at (Below.refl _ _) hlt
      have hki : (k : Int) < (n : Int) := by omega
      have HT : Hid ((ra l k).nm.size ≤ 1024 → ∀ i, i < k + 1 → (ra l i).nm.size ≤ 1024) := fun e i hi => by
        by_cases e2 : i = k
        · rw [e2]; exact e
        · exact HK.out i (by omega)
      have HF : Hid (¬ (ra l k).nm.size ≤ 1024 → false = fewB l) := fun e => (fewB_f (fun h2 => e (h2.2 k (by omega)))).symm
      have hrg : (ra l k).nm.size ≤ 9223372036854775807 := h.rgs hlt
      generalize ra l k = r at *
      obtain ⟨nm, ix, gn⟩ := r
      simp only at c0 c1 c2 HT HF hrg
      clear HK h
      by_cases hs : nm.size ≤ 1024
      · have hs' : ¬ (1024 < (nm.size : Int)) := by omega
        have HT' := hid (HT.out hs)
        clear HT HF
        go_wp2
        go_round
        case rel => exact ⟨k + 1, by omega, by go_num, HT'⟩
        case measure => simp [intOf]; omega
      · have hs' : 1024 < (nm.size : Int) := by omega
        have HF' := hid (HF.out hs)
        clear HT HF
        go_wp2
        go_ret
        exact ⟨ret_bool HF'.out, rfl⟩
    · obtain rfl : k = n := by omega
      have hH : Hid (fewB l = decide ((k : Int) ≤ 40)) := hid (by
        rw [Bool.eq_iff_iff, fewB, decide_eq_true_eq, decide_eq_true_eq]
        exact ⟨fun h2 => by have := h2.1; omega, fun h2 => ⟨by omega, fun i hi => HK.out i (by omega)⟩⟩)
      clear HK h
      go_wp2
      go_ret
      exact ⟨ret_bool hH.out.symm, rfl⟩
end Go.Proofs.YtmefepjjlhphnaaDoor
