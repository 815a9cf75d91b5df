/- joistlaw04.small and Few by their contracts. -/
import Derived.Test.YtjmmppphdmpceaaDiff
import Derived.Test.YtjmmppphdmpceaaRight
namespace Go.Proofs.Ytjmmppphdmpceaa
open Go.RowKit
set_option linter.unusedVariables false

def z128 : List Int := List.replicate 128 0
def o128 : List Int := (List.replicate 128 0).set 64 1
theorem z128_bytes : Bytes z128 := by unfold Bytes; decide +kernel
theorem o128_bytes : Bytes o128 := by unfold Bytes; decide +kernel
theorem diff128 : diffN z128 o128 2 = [(1, lin o128 1)] := by decide +kernel
theorem lay128 : layN z128 [(1, lin o128 1)] = o128 := by decide +kernel
theorem lin128 : (lin o128 1).length = 64 := by decide +kernel

theorem own_made {w : World} {g n : Nat} (h : w.heap[g]? = some (.cells (List.replicate n (Value.int .u8 0)).toArray 5 (0, 0))) (hn : n ≤ 140737488355328) : Own .u8 5 g w (some ⟨g, 0, none⟩) n n (List.replicate n 0) :=
  ⟨by simp, by simp, Or.inr ⟨g, n, _, rfl, Nat.le_refl _, h, Nat.le_refl _, by unfold maxLen; omega, by simp, by simp⟩⟩

theorem own_at {w : World} {g g' n c : Nat} {zs : List Int} (h : g = g') (k : Own .u8 5 g w (some ⟨g, 0, none⟩) n c zs) : Own .u8 5 g' w (some ⟨g', 0, none⟩) n c zs := by subst h; exact k
/-- The one change. -/
structure One (w : World) (g : Nat) (D : Nat → ChD) : Prop where
  chs : Chs w (some ⟨g, 0, none⟩) 1 D
  line : (D 0).line = 1
  bl : (D 0).bl = 64
  bz : (D 0).bz = lin o128 1
theorem One.below {w w' : World} {g : Nat} {D : Nat → ChD} (h : One w g D) (hb : Below w.heap.size w w') : One w' g D := ⟨h.chs.below hb, h.line, h.bl, h.bz⟩
theorem One.cells {w : World} {g : Nat} {D : Nat → ChD} (h : One w g D) : ∃ ba bc, w.cell? ⟨g, 0, none⟩ = some (.int .i64 1) ∧ w.cell? ⟨g, 1, none⟩ = some (.slice ba 64 bc) := by
  obtain ⟨b, off, e, _, hc⟩ := h.chs.here (by omega)
  simp only [Option.some.injEq, Addr.mk.injEq, and_true] at e
  obtain ⟨rfl, rfl⟩ := e
  obtain ⟨c1, c2⟩ := hc 0 (by omega)
  rw [h.line] at c1
  rw [h.bl] at c2
  exact ⟨_, _, by simpa using c1, by simpa using c2⟩
theorem diff_small (ao bo : Option Addr) (c1 c2 : Nat) (w : World) (hx : Sl .u8 w ao 128 c1 z128) (hy : Sl .u8 w bo 128 c2 o128) (h1 : c1 ≤ 9223372036854775807) (h2 : c2 ≤ 9223372036854775807) :
    Calls Try.prog 10 #[.slice ao 128 c1, .slice bo 128 c2] w fun e w' => ∃ g lc D, e = .returned (.tuple #[.slice (some ⟨g, 0, none⟩) 1 lc, .int .i64 0]) ∧ One w' g D ∧ Below w.heap.size w w' := by
  refine (diff_good ao 128 c1 z128 bo c2 o128 w hx hy z128_bytes o128_bytes (by omega) (by omega) h1 h2).mono ?_
  rintro e w' ⟨lo, k, lc, D, rfl, hown, hsay, hb⟩
  rw [show 128 / 64 = 2 from rfl, diff128] at hsay
  have hk : k = 1 := by have := congrArg List.length hsay; rw [saysN_length] at this; exact this
  subst hk
  obtain ⟨g, rfl, _, _⟩ : ∃ g, lo = some ⟨g, 0, none⟩ ∧ True ∧ True := by
    rcases hown.row.2 with ⟨hv, h0⟩ | ⟨g, cap', cur, hv, _⟩
    · omega
    · simp only [Value.slice.injEq] at hv
      exact ⟨g, hv.1, trivial, trivial⟩
  have h0 : (D 0).says = (1, lin o128 1) := by
    have := saysN_get D (show 0 < 1 by omega)
    rw [hsay] at this
    exact (Option.some.inj this).symm
  have hbz : (D 0).bz = lin o128 1 := congrArg Prod.snd h0
  refine ⟨g, lc, D, rfl, ⟨hown.chs, congrArg Prod.fst h0, ?_, hbz⟩, hb⟩
  have := (hown.own 0 (by omega)).1.len
  rw [hbz, lin128] at this
  exact this.symm
theorem One.says {w : World} {g : Nat} {D : Nat → ChD} (h : One w g D) : saysN D 1 = [(1, lin o128 1)] := by
  show [(D 0).says] = _
  rw [ChD.says, h.line, h.bz]
theorem apply_small (ao : Option Addr) (c1 g lc : Nat) (D : Nat → ChD) (w : World) (hx : Sl .u8 w ao 128 c1 z128) (h : One w g D) :
    Calls Try.prog 17 #[.slice ao 128 c1, .slice (some ⟨g, 0, none⟩) 1 lc] w fun e w' => ∃ q, e = .returned (.tuple #[.slice (some ⟨q, 0, none⟩) 128 128, .int .i64 0]) ∧ Sl .u8 w' (some ⟨q, 0, none⟩) 128 128 o128 ∧ Below w.heap.size w w' := by
  refine (apply_any ao 128 c1 z128 _ 1 lc D w hx h.chs (by omega) (by omega)).mono ?_
  rintro e w' ⟨hb, _, h2⟩
  rw [h.says] at h2
  obtain ⟨q, rfl, hown⟩ := h2 (by decide +kernel)
  rw [lay128] at hown
  exact ⟨q, rfl, hown.sl, hb⟩
theorem right_small (n : Int) (v : Bool) (g lc : Nat) (D : Nat → ChD) (w : World) (h : One w g D) (hv : (fitsB n 1 64 && decide ((-1 : Int) < 1)) = v) :
    Calls Try.prog 19 #[.int .i64 n, .slice (some ⟨g, 0, none⟩) 1 lc] w fun e w' => e = .returned (.bool v) ∧ Below w.heap.size w w' := by
  refine (right_any n _ 1 lc D w h.chs).mono ?_
  rintro e w' ⟨rfl, hb⟩
  refine ⟨ret_bool ?_, hb⟩
  rw [rightB_succ, rtD, h.bz, lin128, aheadV, h.line, hv]
  rfl

set_option maxRecDepth 100000 in
theorem small_any (w : World) : Calls Try.prog 8 #[] w fun e w' => e = .returned (.bool true) ∧ Below w.heap.size w w' := by
  obtain ⟨i0, hi, hz0, hz1, hz2⟩ := info_parts Try.info5
  have b128 : i0.bytes * 128 ≤ 281474976710656 := by rw [hz2]; omega
  have b64 : i0.bytes * 64 ≤ 281474976710656 := by rw [hz2]; omega
  have l128 : 128 ≤ maxLen := by unfold maxLen; omega
  have l64 : 64 ≤ maxLen := by unfold maxLen; omega
  have v1 : (fitsB 2 1 64 && decide ((-1 : Int) < 1)) = true := by decide
  have v2 : (fitsB 1 1 64 && decide ((-1 : Int) < 1)) = false := by decide
  have tA : True := trivial
  have tB : True := trivial
  have tC : True := trivial
  have tD : True := trivial
  have tE : True := trivial
  go_enter Try.func8, Try.ntmps8
  go_wp2_with (first
    | (at_make; have _t := tA; refine wpList_make_some _ rfl _ _ 22 rfl 5 i0 (.int .u8 0) Try.underlying22 hi hz0 hz1 rfl .i64 .i64 _ _ 128 128 rfl rfl rfl rfl (Nat.le_refl _) b128 l128 ?_; intro w1 HG1 hb1; clear tA;
       have hc1 := cell_of_row w1 w.heap.size 64 _ 5 (0, 0) HG1.out; have hf1 := frozen_of_row w1 w.heap.size 64 _ 5 HG1.out;
       have hc1 : w1.cell? ⟨w.heap.size, 64, none⟩ = some (.int .u8 0) := (by rw [hc1]; rfl);
       have own2 : Own .u8 5 w.heap.size (w1.setCell ⟨w.heap.size, 64, none⟩ (.int .u8 1)) (some ⟨w.heap.size, 0, none⟩) 128 128 o128 := (own_made HG1.out (by omega)).set 64 1;
       have hb2 : Below w.heap.size w (w1.setCell ⟨w.heap.size, 64, none⟩ (.int .u8 1)) := hb1.setCell (Nat.le_refl _) _)
    | (at_make; have _t := tB; refine wpList_make_some _ rfl _ _ 22 rfl 5 i0 (.int .u8 0) Try.underlying22 hi hz0 hz1 rfl .i64 .i64 _ _ 128 128 rfl rfl rfl rfl (Nat.le_refl _) b128 l128 ?_; intro w3 HG3 hb3; clear tB;
       have own3 : Own .u8 5 w1.heap.size w3 (some ⟨w1.heap.size, 0, none⟩) 128 128 z128 := own_at (by simp [World.setCell]) (own_made HG3.out (by omega)); have own23 := own2.below hb3)
    | (go_at_call 10; have _t := tC; with_reducible refine (diff_small _ _ _ _ _ own3.sl own23.sl (by omega) (by omega)).mono ?_; rintro e w4 ⟨g, lc, D, rfl, one4, hb4⟩; clear tC; have own24 := own23.below hb4; have hb24 := next (next hb2 hb3) hb4)
    | (at_make; have _t := tD; refine wpList_make_some _ rfl _ _ 22 rfl 5 i0 (.int .u8 0) Try.underlying22 hi hz0 hz1 rfl .i64 .i64 _ _ 64 64 rfl rfl rfl rfl (Nat.le_refl _) b64 l64 ?_; intro w5 HG5 hb5; clear tD; have one5 := one4.below hb5; have own25 := own24.below hb5; have hb25 := next hb24 hb5)
    | (go_at_call 10; with_reducible refine (diff_bad _ _ _ _ _ _ _ (by omega) (by omega) (by omega)).mono ?_; rintro e w' ⟨rfl, rfl⟩)
    | (at_make; have _t := tE; refine wpList_make_some _ rfl _ _ 22 rfl 5 i0 (.int .u8 0) Try.underlying22 hi hz0 hz1 rfl .i64 .i64 _ _ 128 128 rfl rfl rfl rfl (Nat.le_refl _) b128 l128 ?_; intro w6 HG6 hb6; clear tE; have own6 : Own .u8 5 _ w6 _ 128 128 z128 := own_made HG6.out (by omega); have one6 := one5.below hb6; have own26 := own25.below hb6; have hb26 := next hb25 hb6)
    | (go_at_call 17; with_reducible refine (apply_small _ _ _ _ D _ own6.sl one6).mono ?_; rintro e w7 ⟨q, rfl, sl7, hb7⟩; have one7 := one6.below hb7; have own27 := own26.below hb7; have hb27 := next hb26 hb7; have tx := sl7.text (P := Try.prog) Try.underlying22 Try.underlying5 Try.underlying9; have ty := own27.sl.text (P := Try.prog) Try.underlying22 Try.underlying5 Try.underlying9; have hcl := one7.cells; rcases hcl with ⟨ba, bc, d1, d2⟩)
    | (go_at_call 19; with_reducible refine (right_small 2 true _ _ D _ one7 v1).mono ?_; rintro e w8 ⟨rfl, hb8⟩; have one8 := one7.below hb8; have hb28 := next hb27 hb8)
    | (go_at_call 19; with_reducible refine (right_small 1 false _ _ D _ one8 v2).mono ?_; rintro e w9 ⟨rfl, hb9⟩; have hb29 := next hb28 hb9))
  go_ret
  exact ⟨rfl, hb29⟩

def fewB (D : Nat → ChD) (m : Nat) : Bool := (List.range m).all (fun i => decide ((D i).bl ≤ 1024)) && decide (m ≤ 300)
theorem few_any (lo : Option Addr) (m lc : Nat) (D : Nat → ChD) (w : World) (h : Chs w lo m D) :
    Calls Try.prog 16 #[.slice lo m lc] w fun e w' => e = .returned (.bool (fewB D m)) ∧ w = w' := by
  have hm9 := h.fit
  go_enter Try.func16, Try.ntmps16
  go_wp2
  go_loop [3] (fun t => ∃ k : Nat, k ≤ m ∧ t = .int .i64 k ∧ Hid ((List.range k).all (fun i => decide ((D i).bl ≤ 1024)) = true)) (fun t => m - (intOf t).toNat)
  case atStart => exact ⟨0, Nat.zero_le _, rfl, hid rfl⟩
  case round =>
    obtain ⟨k, hk, rfl, HK⟩ := hrel
    by_cases hlt : k < m
    · obtain ⟨b1, o1, rfl, _, hc⟩ := h.here (by omega)
      obtain ⟨c1, c2⟩ := hc k hlt
      have hki : (k : Int) < (m : Int) := by omega
      have hbm := (h.ok k hlt).bm
      have hbr := (h.ok k hlt).bs.room
      have HT : Hid ((D k).bl ≤ 1024 → (List.range (k + 1)).all (fun i => decide ((D i).bl ≤ 1024)) = true) := fun e => by rw [List.range_succ, List.all_append, HK.out]; simpa using e
      have HF : Hid (¬ (D k).bl ≤ 1024 → fewB D m = false) := fun e => by
        cases q : fewB D m with
        | false => rfl
        | true =>
          unfold fewB at q
          simp only [Bool.and_eq_true, List.all_eq_true, List.mem_range, decide_eq_true_eq] at q
          exact absurd (q.1 k hlt) e
      generalize (D k).line = X at *
      generalize (D k).ba = X2 at *
      generalize (D k).bl = L at *
      generalize (D k).bc = C at *
      clear hc h
      by_cases hl : L ≤ 1024
      · have hl' : ¬ ((1024 : Int) < L) := by omega
        go_wp2
        go_round
        case rel => exact ⟨k + 1, by omega, by go_num, hid (HT.out hl)⟩
        case measure => simp [intOf]; omega
      · have hl' : (1024 : Int) < L := by omega
        go_wp2
        go_ret
        exact ⟨ret_bool (HF.out hl).symm, rfl⟩
    · obtain rfl : k = m := by omega
      go_wp2
      go_ret
      refine ⟨ret_bool ?_, rfl⟩
      unfold fewB
      rw [HK.out, Bool.true_and, Bool.eq_iff_iff, decide_eq_true_eq, decide_eq_true_eq]
      omega
end Go.Proofs.Ytjmmppphdmpceaa
