/- The law 'LinesDiffs', walked. -/
import Derived.Test.YtjmmppphdmpceaaSmallLines
import Derived.Test.YtjmmppphdmpceaaRefDiff
import Derived.Test.YtjmmppphdmpceaaRefSameC
import Derived.Test.YtjmmppphdmpceaaSpoil
namespace Go.Proofs.Ytjmmppphdmpceaa
open Go.RowKit
set_option linter.unusedVariables false

theorem next2 {B : Nat} {w a b : World} (h : Below B w a) (k : Below a.heap.size a b) (hB : B ≤ a.heap.size) : Below B w b := h.trans (k.mono hB)
theorem diffs_good (w : World) (a0 : Option Addr) (len0 cap0 : Nat) (z0 : List Int) (s0 : Sl .u8 w a0 len0 cap0 z0) (b0 : Bytes z0) (m0 : len0 ≤ 140737488351232) (c0 : cap0 ≤ 9223372036854775807)
    (a1 : Option Addr) (cap1 : Nat) (z1 : List Int) (s1 : Sl .u8 w a1 len0 cap1 z1) (b1 : Bytes z1) (c1 : cap1 ≤ 9223372036854775807) (h64 : len0 % 64 = 0) :
    Calls Try.prog 3 #[.slice a0 len0 cap0, .slice a1 len0 cap1] w fun e w' => e = .returned (.bool true) ∧ Below w.heap.size w w' := by
  have hl0 := s0.len
  have hl1 := s1.len
  have n0 : len0 ≤ 140737488355328 := by omega
  have n9 : len0 + 1 ≤ 9223372036854775807 := by omega
  have tA : True := trivial
  have tB : True := trivial
  go_enter Try.func3, Try.ntmps3
  go_wp2_with (first
    | (go_at_call 8; with_reducible refine (small_any _).mono ?_; rintro e w1 ⟨rfl, hb1⟩; have p0 := s0.below hb1; have p1 := s1.below hb1)
    | (go_at_call 9; have _t := tA; with_reducible refine (lent_any _ _ _ z0 _ p0 n0).mono ?_; rintro e w2 ⟨rfl, hx, hb2⟩; clear tA; have q0 := p0.below hb2; have q1 := p1.below hb2)
    | (go_at_call 9; with_reducible refine (lent_any _ _ _ z1 _ q1 n0).mono ?_; rintro e w3 ⟨rfl, hy, hb3⟩; have r0 := q0.below hb3; have r1 := q1.below hb3; have hx3 := hx.below hb3)
    | (go_at_call 10; with_reducible refine (diff_good _ _ _ z0 _ _ z1 _ (hx3.sl hl0) (hy.sl hl1) b0 b1 h64 n0 n9 n9).mono ?_; rintro e w4 ⟨lo, k, lc, D, rfl, hD, hsay, hb4⟩; have u0 := r0.below hb4; have u1 := r1.below hb4; have hx4 := hx3.below hb4; have hy4 := hy.below hb4;
       have hbx : w2.heap.size ≤ w3.heap.size := hb3.size;
       have hlx := hx.lt; have hly := hy.lt;
       have ro : Rowd w4 w1.heap.size (some ⟨w1.heap.size, 0, none⟩) len0 (len0 + 1) w1.heap.size := hx4.rowd hl0 n0;
       have rt : Rowd w4 w1.heap.size (some ⟨w2.heap.size, 0, none⟩) len0 (len0 + 1) w2.heap.size := (hy4.rowd hl1 n0).mono hb2.size;
       have cO := owned_two ro rt (fun _ _ e => Nat.ne_of_lt hlx e))
    | (go_at_call 11; have _t := tB; with_reducible refine (kept_any _ _ _ _ z0 _ hx4 u0 n0).mono ?_; rintro e w' ⟨rfl, rfl⟩; clear tB)
    | (go_at_call 11; with_reducible refine (kept_any _ _ _ _ z1 _ hy4 u1 n0).mono ?_; rintro e w' ⟨rfl, rfl⟩)
    | (go_at_call 12; with_reducible refine cO.mono ?_; rintro e w5 ⟨rfl, ho⟩;
       have hbA : Below w4.heap.size w4 (w4.alloc (.cells #[.slice (some ⟨w1.heap.size, 0, none⟩) len0 (len0 + 1), .slice (some ⟨w2.heap.size, 0, none⟩) len0 (len0 + 1)] 22)) := (Below.refl _ _).alloc (Nat.le_refl _) _;
       have hs14 : w1.heap.size ≤ w4.heap.size := Nat.le_trans hb2.size (Nat.le_trans hb3.size hb4.size);
       have hbo := ho.below (B := w1.heap.size) (fun j hj => by rcases hj with hj | hj <;> rw [hj.1]; exact Nat.le_refl _; exact hb2.size) (Nat.le_trans hs14 hbA.size);
       have hD5 := (hD.below hbA).off ho (fun j hj => by rcases hj with hj | hj <;> rw [hj.1] <;> omega);
       have hb5 : Below w.heap.size w w5 := (next (next (next (next hb1 hb2) hb3) hb4) hbA).trans (hbo.mono hb1.size);
       have v0 := s0.below hb5; have v1 := s1.below hb5)
    | (go_at_call 13; with_reducible refine (refdiff_good _ _ _ z0 _ _ z1 _ v0 v1 b0 b1 h64 n0 c0 c1).mono ?_; rintro e w6 ⟨mo, k', mc, E, rfl, hE, hsay', hb6⟩; have hD6 := hD5.below hb6)
    | (go_at_call 14; with_reducible refine (refsame_any _ _ _ D _ _ _ E _ hD6.chs hE.chs).mono ?_; rintro e w7 ⟨rfl, hb7⟩; rw [hsay, hsay', sameB_t rfl]; have hD7 := hD6.below hb7; have hs37 : w3.heap.size ≤ w7.heap.size := Nat.le_trans hb4.size (Nat.le_trans hbA.size (Nat.le_trans ho.size (Nat.le_trans hb6.size hb7.size))))
    | (go_at_call 15; with_reducible refine (spoil_any w3.heap.size _ _ _ D _ hD7 hs37).mono ?_; rintro e w8 ⟨rfl, hb8⟩))
  go_ret
  exact ⟨rfl, (next (next hb5 hb6) hb7).trans (hb8.mono (Nat.le_trans hb1.size (Nat.le_trans hb2.size hb3.size)))⟩
theorem diffs_bad (w : World) (a0 : Option Addr) (len0 cap0 : Nat) (z0 : List Int) (s0 : Sl .u8 w a0 len0 cap0 z0) (b0 : Bytes z0) (m0 : len0 ≤ 140737488351232)
    (a1 : Option Addr) (len1 cap1 : Nat) (z1 : List Int) (s1 : Sl .u8 w a1 len1 cap1 z1) (b1 : Bytes z1) (m1 : len1 ≤ 140737488351232) (hbad : ¬ (len0 % 64 = 0 ∧ len0 = len1)) :
    Calls Try.prog 3 #[.slice a0 len0 cap0, .slice a1 len1 cap1] w fun e w' => e = .returned (.bool true) ∧ Below w.heap.size w w' := by
  have hl0 := s0.len
  have hl1 := s1.len
  have n0 : len0 ≤ 140737488355328 := by omega
  have n1 : len1 ≤ 140737488355328 := by omega
  have k0 : len0 ≤ 9223372036854775807 := by omega
  have k1 : len1 ≤ 9223372036854775807 := by omega
  have tA : True := trivial
  have tB : True := trivial
  have e1 : sameB (saysN default 0) (saysN default 0) = true := sameB_t rfl
  go_enter Try.func3, Try.ntmps3
  go_wp2_with (first
    | (go_at_call 8; with_reducible refine (small_any _).mono ?_; rintro e w1 ⟨rfl, hb1⟩; have p0 := s0.below hb1; have p1 := s1.below hb1)
    | (go_at_call 9; have _t := tA; with_reducible refine (lent_any _ _ _ z0 _ p0 n0).mono ?_; rintro e w2 ⟨rfl, hx, hb2⟩; clear tA; have q0 := p0.below hb2; have q1 := p1.below hb2)
    | (go_at_call 9; with_reducible refine (lent_any _ _ _ z1 _ q1 n1).mono ?_; rintro e w3 ⟨rfl, hy, hb3⟩; have u0 := q0.below hb3; have u1 := q1.below hb3; have hx4 := hx.below hb3;
       have hlx := hx.lt; have hly := hy.lt;
       have ro : Rowd w3 w1.heap.size (some ⟨w1.heap.size, 0, none⟩) len0 (len0 + 1) w1.heap.size := hx4.rowd hl0 n0;
       have rt : Rowd w3 w1.heap.size (some ⟨w2.heap.size, 0, none⟩) len1 (len1 + 1) w2.heap.size := (hy.rowd hl1 n1).mono hb2.size;
       have cO := owned_two ro rt (fun _ _ e => Nat.ne_of_lt hlx e))
    | (go_at_call 10; with_reducible refine (diff_bad _ _ _ _ _ _ _ k0 k1 hbad).mono ?_; rintro e w' ⟨rfl, rfl⟩)
    | (go_at_call 11; have _t := tB; with_reducible refine (kept_any _ _ _ _ z0 _ hx4 u0 n0).mono ?_; rintro e w' ⟨rfl, rfl⟩; clear tB)
    | (go_at_call 11; with_reducible refine (kept_any _ _ _ _ z1 _ hy u1 n1).mono ?_; rintro e w' ⟨rfl, rfl⟩)
    | (go_at_call 12; with_reducible refine cO.mono ?_; rintro e w5 ⟨rfl, ho⟩;
       have hbA : Below w3.heap.size w3 (w3.alloc (.cells #[.slice (some ⟨w1.heap.size, 0, none⟩) len0 (len0 + 1), .slice (some ⟨w2.heap.size, 0, none⟩) len1 (len1 + 1)] 22)) := (Below.refl _ _).alloc (Nat.le_refl _) _;
       have hs14 : w1.heap.size ≤ w3.heap.size := Nat.le_trans hb2.size hb3.size;
       have hbo := ho.below (B := w1.heap.size) (fun j hj => by rcases hj with hj | hj <;> rw [hj.1]; exact Nat.le_refl _; exact hb2.size) (Nat.le_trans hs14 hbA.size);
       have hb5 : Below w.heap.size w w5 := (next (next (next hb1 hb2) hb3) hbA).trans (hbo.mono hb1.size))
    | (go_at_call 13; with_reducible refine (refdiff_bad _ _ _ _ _ _ _ k0 k1 hbad).mono ?_; rintro e w' ⟨rfl, rfl⟩)
    | (go_at_call 14; with_reducible refine (refsame_any _ _ _ default _ _ _ default _ (ownC_nil 0 _ _).chs (ownC_nil 0 _ _).chs).mono ?_; rintro e w7 ⟨rfl, hb7⟩; rw [e1]; have hs7 := Nat.le_refl w7.heap.size)
    | (go_at_call 15; with_reducible refine (spoil_any w7.heap.size _ _ _ default _ (ownC_nil _ _ _) hs7).mono ?_; rintro e w8 ⟨rfl, hb8⟩))
  go_ret
  exact ⟨rfl, next (next hb5 hb7) hb8⟩
theorem linesDiffs_walk (w : World) (a0 : Option Addr) (len0 cap0 : Nat) (z0 : List Int) (s0 : Sl .u8 w a0 len0 cap0 z0) (f0 : ∀ n ∈ z0, (Lit.int .u8 n).wf = true) (c0 : cap0 * 1 ≤ 140737488351232)
    (a1 : Option Addr) (len1 cap1 : Nat) (z1 : List Int) (s1 : Sl .u8 w a1 len1 cap1 z1) (f1 : ∀ n ∈ z1, (Lit.int .u8 n).wf = true) (c1 : cap1 * 1 ≤ 140737488351232) :
    Calls Try.prog 3 #[.slice a0 len0 cap0, .slice a1 len1 cap1] w fun e w' => e = .returned (.bool true) ∧ Below w.heap.size w w' := by
  have r0 := s0.room
  have r1 := s1.room
  by_cases h : len0 % 64 = 0 ∧ len0 = len1
  · obtain ⟨h64, rfl⟩ := h
    exact diffs_good w a0 len0 cap0 z0 s0 (bytes_wf f0) (by omega) (by omega) a1 cap1 z1 s1 (bytes_wf f1) (by omega) h64
  · exact diffs_bad w a0 len0 cap0 z0 s0 (bytes_wf f0) (by omega) a1 len1 cap1 z1 s1 (bytes_wf f1) (by omega) h
end Go.Proofs.Ytjmmppphdmpceaa
