/- The law 'LinesApplies', walked. -/
import Derived.Test.YtjmmppphdmpceaaSmallLines
import Derived.Test.YtjmmppphdmpceaaRefApply
import Derived.Test.YtjmmppphdmpceaaRefRight
import Derived.Test.YtjmmppphdmpceaaSameC
import Derived.Test.YtjmmppphdmpceaaRowsL
namespace Go.Proofs.Ytjmmppphdmpceaa
open Go.RowKit
set_option linter.unusedVariables false

/-- What both calls answer: bytes of the call's own, an error's number. -/
def Res (f : FuncId) (n len1 cap1 : Nat) (a1 : Option Addr) (z0 : List Int) (D : Nat → ChD) (V : Int) (M : Nat) (ZZ : List Int) : Prop :=
  ∀ (w : World) (ao : Option Addr) (c : Nat), Sl .u8 w ao n c z0 → Chs w a1 len1 D → Calls Try.prog f #[.slice ao n c, .slice a1 len1 cap1] w fun e w' => ∃ xo xc, e = .returned (.tuple #[.slice xo M xc, .int .i64 V]) ∧ Own .u8 5 w.heap.size w' xo M xc ZZ ∧ Below w.heap.size w w'
theorem res_both (n len1 cap1 : Nat) (a1 : Option Addr) (z0 : List Int) (D : Nat → ChD) (hn : n ≤ 140737488355328) : ∃ V M ZZ, Res 17 n len1 cap1 a1 z0 D V M ZZ ∧ Res 18 n len1 cap1 a1 z0 D V M ZZ := by
  by_cases h64 : n % 64 = 0
  · cases hok : okA (n / 64) (saysN D len1) with
    | true =>
      refine ⟨0, n, layN z0 (saysN D len1), fun w ao c hs hC => ?_, fun w ao c hs hC => ?_⟩
      · refine (apply_any ao n c z0 a1 len1 cap1 D w hs hC h64 hn).mono ?_
        rintro e w' ⟨hb, _, hg⟩
        obtain ⟨g, rfl, hown⟩ := hg hok
        exact ⟨_, _, rfl, hown, hb⟩
      · refine (refapply_any ao n c z0 a1 len1 cap1 D w hs hC h64 hn).mono ?_
        rintro e w' ⟨hb, _, hg⟩
        obtain ⟨bo, c', rfl, hown⟩ := hg hok
        exact ⟨_, _, rfl, hown, hb⟩
    | false =>
      refine ⟨1, 0, [], fun w ao c hs hC => ?_, fun w ao c hs hC => ?_⟩
      · refine (apply_any ao n c z0 a1 len1 cap1 D w hs hC h64 hn).mono ?_
        rintro e w' ⟨hb, hg, _⟩
        exact ⟨none, 0, hg hok, own_nil _ _ _ _, hb⟩
      · refine (refapply_any ao n c z0 a1 len1 cap1 D w hs hC h64 hn).mono ?_
        rintro e w' ⟨hb, hg, _⟩
        exact ⟨none, 0, hg hok, own_nil _ _ _ _, hb⟩
  · refine ⟨1, 0, [], fun w ao c hs hC => ?_, fun w ao c hs hC => ?_⟩
    · refine (apply_part ao n c a1 len1 cap1 w (by omega) h64).mono ?_
      rintro e w' ⟨rfl, rfl⟩
      exact ⟨none, 0, rfl, own_nil _ _ _ _, Below.refl _ _⟩
    · refine (refapply_part ao n c a1 len1 cap1 w (by omega) h64).mono ?_
      rintro e w' ⟨rfl, rfl⟩
      exact ⟨none, 0, rfl, own_nil _ _ _ _, Below.refl _ _⟩
theorem applies_great (w : World) (a0 : Option Addr) (len0 cap0 : Nat) (a1 : Option Addr) (len1 cap1 : Nat) (D : Nat → ChD) (hC : Chs w a1 len1 D) (a2 : Option Addr) (len2 cap2 : Nat) (E : Nat → ChD) (hE : Chs w a2 len2 E) (n : Int) (h : ¬ (fewB D len1 = true ∧ fewB E len2 = true)) :
    Calls Try.prog 4 #[.slice a0 len0 cap0, .slice a1 len1 cap1, .slice a2 len2 cap2, .int .i64 n] w fun e w' => e = .returned (.bool true) ∧ Below w.heap.size w w' := by
  have tA : True := trivial
  cases h1 : fewB D len1 with
  | true =>
    have h2 : fewB E len2 = false := by
      cases e : fewB E len2 with
      | true => exact absurd ⟨h1, e⟩ h
      | false => rfl
    clear h
    go_enter Try.func4, Try.ntmps4
    go_wp2_with (first
      | (go_at_call 8; with_reducible refine (small_any _).mono ?_; rintro e w1 ⟨rfl, hb1⟩; have p1 := hC.below hb1; have p2 := hE.below hb1)
      | (go_at_call 16; have _t := tA; with_reducible refine (few_any _ _ _ D _ p1).mono ?_; rintro e w' ⟨rfl, rfl⟩; clear tA; rw [h1])
      | (go_at_call 16; with_reducible refine (few_any _ _ _ E _ p2).mono ?_; rintro e w' ⟨rfl, rfl⟩; rw [h2]))
    go_ret
    exact ⟨rfl, hb1⟩
  | false =>
    clear h
    go_enter Try.func4, Try.ntmps4
    go_wp2_with (first
      | (go_at_call 8; with_reducible refine (small_any _).mono ?_; rintro e w1 ⟨rfl, hb1⟩; have p1 := hC.below hb1; have p2 := hE.below hb1)
      | (go_at_call 16; have _t := tA; with_reducible refine (few_any _ _ _ D _ p1).mono ?_; rintro e w' ⟨rfl, rfl⟩; clear tA; rw [h1])
      | (go_at_call 16; with_reducible refine (few_any _ _ _ E _ p2).mono ?_; rintro e w' ⟨rfl, rfl⟩))
    go_ret
    exact ⟨rfl, hb1⟩
set_option maxRecDepth 100000 in
theorem applies_good (w : World) (a0 : Option Addr) (len0 cap0 : Nat) (z0 : List Int) (s0 : Sl .u8 w a0 len0 cap0 z0) (m0 : len0 ≤ 140737488351232)
    (a1 : Option Addr) (len1 cap1 : Nat) (D : Nat → ChD) (hC : Chs w a1 len1 D) (a2 : Option Addr) (len2 cap2 : Nat) (E : Nat → ChD) (hE : Chs w a2 len2 E) (n : Int) (h1 : fewB D len1 = true) (h2 : fewB E len2 = true)
    (V : Int) (M : Nat) (ZZ : List Int) (hap : Res 17 len0 len1 cap1 a1 z0 D V M ZZ) (hre : Res 18 len0 len1 cap1 a1 z0 D V M ZZ) :
    Calls Try.prog 4 #[.slice a0 len0 cap0, .slice a1 len1 cap1, .slice a2 len2 cap2, .int .i64 n] w fun e w' => e = .returned (.bool true) ∧ Below w.heap.size w w' := by
  have hl0 := s0.len
  have n0 : len0 ≤ 140737488355328 := by omega
  have tA : True := trivial
  have tB : True := trivial
  have eS : sameB (saysN D len1) (saysN D len1) = true := sameB_t rfl
  unfold Res at hap hre
  go_enter Try.func4, Try.ntmps4
  go_wp2_with (first
    | (go_at_call 8; with_reducible refine (small_any _).mono ?_; rintro e w1 ⟨rfl, hb1⟩; have p0 := s0.below hb1; have p1 := hC.below hb1; have p2 := hE.below hb1)
    | (go_at_call 16; have _t := tA; with_reducible refine (few_any _ _ _ D _ p1).mono ?_; rintro e w' ⟨rfl, rfl⟩; clear tA; rw [h1])
    | (go_at_call 16; with_reducible refine (few_any _ _ _ E _ p2).mono ?_; rintro e w' ⟨rfl, rfl⟩; rw [h2])
    | (go_at_call 9; with_reducible refine (lent_any _ _ _ z0 _ p0 n0).mono ?_; rintro e w2 ⟨rfl, hx, hb2⟩; have q0 := p0.below hb2; have q1 := p1.below hb2; have cA := hap w2 _ _ (hx.sl hl0) q1)
    | (go_at_call 17; with_reducible refine cA.mono ?_; rintro e w3 ⟨xo, xc, rfl, hX, hb3⟩; have hx3 := hx.below hb3; have r0 := q0.below hb3; have r1 := q1.below hb3; have cB := hre w3 _ _ r0 r1)
    | (go_at_call 11; with_reducible refine (kept_any _ _ _ _ z0 _ hx3 r0 n0).mono ?_; rintro e w' ⟨rfl, rfl⟩)
    | (go_at_call 18; with_reducible refine cB.mono ?_; rintro e w4 ⟨yo, yc, rfl, hY, hb4⟩; have hX4 := hX.below hb4; have hx4 := hx3.below hb4;
       have tx := hX4.sl.text (P := Try.prog) Try.underlying22 Try.underlying5 Try.underlying9; have ty := hY.sl.text (P := Try.prog) Try.underlying22 Try.underlying5 Try.underlying9;
       have hlx := hx.lt;
       have rx := hX4.rowb;
       have cO := owned_two (B := w1.heap.size) (rx.mono hb2.size) (hx4.rowd hl0 n0) (fun hc _ e => (by have h3 := (rx.spot hc).2.1; rw [e] at h3; omega)))
    | (go_at_call 12; with_reducible refine cO.mono ?_; rintro e w5 ⟨rfl, ho⟩;
       have hbA : Below w4.heap.size w4 (w4.alloc (.cells #[.slice xo M xc, .slice (some ⟨w1.heap.size, 0, none⟩) len0 (len0 + 1)] 22)) := (Below.refl _ _).alloc (Nat.le_refl _) _;
       have hs14 : w1.heap.size ≤ w4.heap.size := Nat.le_trans hb2.size (Nat.le_trans hb3.size hb4.size);
       have hbo := ho.below (B := w1.heap.size) (fun j hj => (by rcases hj with hj | hj <;> rw [hj.1]; exact Nat.le_trans hb2.size (rx.spot hj.2).2.1; exact Nat.le_refl _)) (Nat.le_trans hs14 hbA.size);
       have hb5 : Below w.heap.size w w5 := (next (next (next (next hb1 hb2) hb3) hb4) hbA).trans (hbo.mono hb1.size);
       have u1 := hC.below hb5; have u2 := hE.below hb5; clear tx ty)
    | (go_at_call 19; with_reducible refine (right_any _ _ _ _ D _ u1).mono ?_; rintro e w6 ⟨rfl, hb6⟩; have v1 := u1.below hb6)
    | (go_at_call 20; with_reducible refine (refright_any _ _ _ _ D _ v1).mono ?_; rintro e w7 ⟨rfl, hb7⟩; have x1 := v1.below hb7; have hb57 := next hb6 hb7; have x2 := u2.below hb57; generalize rightB n D len1 = RB at *)
    | (go_at_call 21; have _t := tB; with_reducible refine (same_chs _ _ _ D _ _ _ E _ x1 x2).mono ?_; rintro e w8 ⟨rfl, hb8⟩; clear tB; have y1 := x1.below hb8; have y2 := x2.below hb8)
    | (go_at_call 14; with_reducible refine (refsame_any _ _ _ D _ _ _ E _ y1 y2).mono ?_; rintro e w9 ⟨rfl, hb9⟩; have z1 := y1.below hb9; generalize sameB (saysN D len1) (saysN E len2) = SB at *)
    | (go_at_call 21; with_reducible refine (same_chs _ _ _ D _ _ _ D _ z1 z1).mono ?_; rintro e w10 ⟨rfl, hb10⟩; rw [eS]))
  all_goals (go_ret; exact ⟨rfl, next (next (next (next hb5 hb57) hb8) hb9) hb10⟩)
theorem linesApplies_walk (w : World) (a0 : Option Addr) (len0 cap0 : Nat) (z0 : List Int) (s0 : Sl .u8 w a0 len0 cap0 z0) (f0 : ∀ n ∈ z0, (Lit.int .u8 n).wf = true) (c0 : cap0 * 1 ≤ 140737488351232)
    (a1 : Option Addr) (len1 cap1 : Nat) (hv : a1 = none → cap1 = 0 ∧ len1 = 0) (D : Nat → ChD) (hC : Chs w a1 len1 D) (a2 : Option Addr) (len2 cap2 : Nat) (hv2 : a2 = none → cap2 = 0 ∧ len2 = 0) (E : Nat → ChD) (hE : Chs w a2 len2 E) (n : Int) (f3 : (Lit.int .i64 n).wf = true) :
    Calls Try.prog 4 #[.slice a0 len0 cap0, .slice a1 len1 cap1, .slice a2 len2 cap2, .int .i64 n] w fun e w' => e = .returned (.bool true) ∧ Below w.heap.size w w' := by
  have r0 := s0.room
  by_cases h : fewB D len1 = true ∧ fewB E len2 = true
  · obtain ⟨V, M, ZZ, h1, h2⟩ := res_both len0 len1 cap1 a1 z0 D (by omega)
    exact applies_good w a0 len0 cap0 z0 s0 (by omega) a1 len1 cap1 D hC a2 len2 cap2 E hE n h.1 h.2 V M ZZ h1 h2
  · exact applies_great w a0 len0 cap0 a1 len1 cap1 D hC a2 len2 cap2 E hE n h
end Go.Proofs.Ytjmmppphdmpceaa
