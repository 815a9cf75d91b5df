/- The law 'LinesTwice', walked. -/
import Derived.Test.YtjmmppphdmpceaaSmallLines
import Derived.Test.YtjmmppphdmpceaaLayQ
import Derived.Test.YtjmmppphdmpceaaChApp
namespace Go.Proofs.Ytjmmppphdmpceaa
open Go.RowKit
set_option linter.unusedVariables false

/-- Apply, where it refuses. -/
theorem twice_bad (w : World) (a0 : Option Addr) (len0 cap0 : Nat) (a1 : Option Addr) (len1 cap1 : Nat) (D : Nat → ChD) (hC : Chs w a1 len1 D)
    (hap : ∀ w', Below w.heap.size w w' → Calls Try.prog 17 #[.slice a0 len0 cap0, .slice a1 len1 cap1] w' fun e w'' => e = .returned (.tuple #[.slice none 0 0, .int .i64 1]) ∧ Below w'.heap.size w' w'') :
    Calls Try.prog 6 #[.slice a0 len0 cap0, .slice a1 len1 cap1] w fun e w' => e = .returned (.bool true) ∧ Below w.heap.size w w' := by
  cases hf : fewB D len1 with
  | true =>
    go_enter Try.func6, Try.ntmps6
    go_wp2_with (first
      | (go_at_call 8; with_reducible refine (small_any _).mono ?_; rintro e w1 ⟨rfl, hb1⟩; have p1 := hC.below hb1; have cA := hap w1 hb1)
      | (go_at_call 16; with_reducible refine (few_any _ _ _ D _ p1).mono ?_; rintro e w' ⟨rfl, rfl⟩; rw [hf])
      | (go_at_call 17; with_reducible refine cA.mono ?_; rintro e w2 ⟨rfl, hb2⟩))
    go_ret
    exact ⟨rfl, next hb1 hb2⟩
  | false =>
    go_enter Try.func6, Try.ntmps6
    go_wp2_with (first
      | (go_at_call 8; with_reducible refine (small_any _).mono ?_; rintro e w1 ⟨rfl, hb1⟩; have p1 := hC.below hb1; have cA := hap w1 hb1)
      | (go_at_call 16; with_reducible refine (few_any _ _ _ D _ p1).mono ?_; rintro e w' ⟨rfl, rfl⟩; rw [hf])
      | (go_at_call 17; with_reducible refine cA.mono ?_; rintro e w2 ⟨rfl, hb2⟩))
    go_ret
    exact ⟨rfl, next hb1 hb2⟩
theorem twice_great (w : World) (a0 : Option Addr) (len0 cap0 : Nat) (z0 : List Int) (s0 : Sl .u8 w a0 len0 cap0 z0) (m0 : len0 ≤ 140737488351232) (h64 : len0 % 64 = 0) (a1 : Option Addr) (len1 cap1 : Nat) (D : Nat → ChD) (hC : Chs w a1 len1 D) (hok : okA (len0 / 64) (saysN D len1) = true) (hf : fewB D len1 = false) :
    Calls Try.prog 6 #[.slice a0 len0 cap0, .slice a1 len1 cap1] w fun e w' => e = .returned (.bool true) ∧ Below w.heap.size w w' := by
  have n0 : len0 ≤ 140737488355328 := by omega
  by_cases h0 : len0 = 0
  · have e0 : ((len0 : Int) == 0) = true := by simp; omega
    clear h0
    go_enter Try.func6, Try.ntmps6
    go_wp2_with (first
      | (go_at_call 8; with_reducible refine (small_any _).mono ?_; rintro e w1 ⟨rfl, hb1⟩; have p0 := s0.below hb1; have p1 := hC.below hb1)
      | (go_at_call 16; with_reducible refine (few_any _ _ _ D _ p1).mono ?_; rintro e w' ⟨rfl, rfl⟩; rw [hf])
      | (go_at_call 17; with_reducible refine (apply_any _ _ _ z0 _ _ _ D _ p0 p1 h64 n0).mono ?_; rintro e w2 ⟨hb2, _, hgood⟩; obtain ⟨g, rfl, hown⟩ := hgood hok))
    go_ret
    exact ⟨rfl, next hb1 hb2⟩
  · have e0 : ((len0 : Int) == 0) = false := by simp; omega
    go_enter Try.func6, Try.ntmps6
    go_wp2_with (first
      | (go_at_call 8; with_reducible refine (small_any _).mono ?_; rintro e w1 ⟨rfl, hb1⟩; have p0 := s0.below hb1; have p1 := hC.below hb1)
      | (go_at_call 16; with_reducible refine (few_any _ _ _ D _ p1).mono ?_; rintro e w' ⟨rfl, rfl⟩; rw [hf])
      | (go_at_call 17; with_reducible refine (apply_any _ _ _ z0 _ _ _ D _ p0 p1 h64 n0).mono ?_; rintro e w2 ⟨hb2, _, hgood⟩; obtain ⟨g, rfl, hown⟩ := hgood hok))
    go_ret
    exact ⟨rfl, next hb1 hb2⟩
theorem few_len {D : Nat → ChD} {m : Nat} (h : fewB D m = true) : m ≤ 300 := by
  unfold fewB at h
  simp only [Bool.and_eq_true, decide_eq_true_eq] at h
  exact h.2
set_option maxRecDepth 100000 in
theorem twice_good (w : World) (a0 : Option Addr) (len0 cap0 : Nat) (z0 : List Int) (s0 : Sl .u8 w a0 len0 cap0 z0) (b0 : Bytes z0) (m0 : len0 ≤ 140737488351232) (h64 : len0 % 64 = 0) (a1 : Option Addr) (len1 cap1 : Nat) (hv : a1 = none → cap1 = 0 ∧ len1 = 0) (D : Nat → ChD) (hC : Chs w a1 len1 D) (hok : okA (len0 / 64) (saysN D len1) = true) (hf : fewB D len1 = true) :
    Calls Try.prog 6 #[.slice a0 len0 cap0, .slice a1 len1 cap1] w fun e w' => e = .returned (.bool true) ∧ Below w.heap.size w w' := by
  have n0 : len0 ≤ 140737488355328 := by omega
  have hm := few_len hf
  have hl0 := s0.len
  have hx : z0.length = 64 * (len0 / 64) := by omega
  have HT := hid (lay_twice hok hx)
  have hok2 : okA (len0 / 64) (saysN D len1 ++ saysN D len1) = true := by rw [okA_append, hok]; rfl
  have HL : Hid (layN z0 (saysN D len1 ++ saysN D len1) = layN z0 (saysN D len1)) := hid (by rw [layN_append, HT.out])
  obtain ⟨Z, hZ⟩ : ∃ Z, layN z0 (saysN D len1) = Z := ⟨_, rfl⟩
  rw [hZ] at HT HL
  have k1 : (0 + len1) * 32 ≤ 140737488355328 := by omega
  have k2 : (len1 + len1) * 32 ≤ 140737488355328 := by omega
  have tA : True := trivial
  have tB : True := trivial
  have tC : True := trivial
  go_enter Try.func6, Try.ntmps6
  go_wp2_with (first
    | (go_at_call 8; with_reducible refine (small_any _).mono ?_; rintro e w1 ⟨rfl, hb1⟩; have p0 := s0.below hb1; have p1 := hC.below hb1)
    | (go_at_call 16; with_reducible refine (few_any _ _ _ D _ p1).mono ?_; rintro e w' ⟨rfl, rfl⟩; rw [hf])
    | (go_at_call 17; have _t := tA; with_reducible refine (apply_any _ _ _ z0 _ _ _ D _ p0 p1 h64 n0).mono ?_; rintro e w2 ⟨hb2, _, hgood⟩; obtain ⟨g, rfl, hown⟩ := hgood hok; rw [hZ] at hown; clear tA; have q0 := p0.below hb2; have q1 := p1.below hb2)
    | (go_at_call 17; have _t := tB; with_reducible refine (apply_any _ _ _ Z _ _ _ D _ hown.sl q1 h64 n0).mono ?_; rintro e w3 ⟨hb3, _, hgood⟩; obtain ⟨g3, rfl, hown3⟩ := hgood hok; rw [HT.out] at hown3; clear tB; have r0 := q0.below hb3; have hownB := hown.below hb3;
       have hb0 : Below w3.heap.size w3 (w3.alloc (.cells #[] 42)) := (Below.refl _ _).alloc (Nat.le_refl _) _;
       have hmade : (w3.alloc (.cells #[] 42)).ownsRow w3.heap.size 42 2 (.slice (some ⟨w3.heap.size, 0, none⟩) 0 0) 0 (cellsN default 0) := World.ownsRow_made w3 #[] 0 (Nat.le_refl _) (Nat.zero_le _) rfl;
       have src0 := (q1.below hb3).below hb0; have hs0 := hb0.size)
    | (at_builtin; have _t := tC; refine append_chgs rfl (.tmp 46) (.tmp 47) rfl w3.heap.size _ 0 default rfl hmade a1 len1 cap1 D rfl src0 hv k1 hs0 ?_; intro bo4 c4 w4 hown4 hgr4; rw [Nat.zero_add] at hown4; clear tC; have hb4 : Below w3.heap.size w3 w4 := hb0.grown hgr4 hs0 (fun b hb' => (hmade.lt b hb').1); have src4 := (q1.below hb3).below hb4; have hs4 := hb4.size)
    | (at_builtin; refine append_chgs rfl (.tmp 48) (.tmp 49) rfl w3.heap.size _ len1 (catD default 0 D) rfl hown4 a1 len1 cap1 D rfl src4 hv k2 hs4 ?_; intro bo5 c5 w5 hown5 hgr5;
       have hb5 : Below w3.heap.size w3 w5 := hb4.grown hgr5 hs4 (fun b hb' => (hown4.lt b hb').1); have src5 := (q1.below hb3).below hb5;
       have hE := chs_of_row hown5 (fun i hi => (by
         unfold catD
         by_cases e1 : i < len1
         · rw [if_pos e1, if_neg (by omega)]; exact src5.ok (i - 0) (by omega)
         · rw [if_neg e1]; exact src5.ok _ (by omega)));
       have u0 := r0.below hb5; have hS5 : saysN (catD (catD default 0 D) len1 D) (len1 + len1) = saysN D len1 ++ saysN D len1 := (by rw [catD_says]; have h0 := catD_says default 0 D len1; rw [Nat.zero_add] at h0; rw [h0]; rfl); have hok5 : okA (len0 / 64) (saysN (catD (catD default 0 D) len1 D) (len1 + len1)) = true := (by rw [hS5]; exact hok2))
    | (go_at_call 17; with_reducible refine (apply_any _ _ _ z0 _ _ _ (catD (catD default 0 D) len1 D) _ u0 hE h64 n0).mono ?_; rintro e w6 ⟨hb6, _, hgood⟩; obtain ⟨g6, rfl, hown6⟩ := hgood hok5; rw [hS5, HL.out] at hown6;
       have tx := ((hown3.below hb5).below hb6).sl.text (P := Try.prog) Try.underlying22 Try.underlying5 Try.underlying9; have ty := ((hownB.below hb5).below hb6).sl.text (P := Try.prog) Try.underlying22 Try.underlying5 Try.underlying9; have tz := hown6.sl.text (P := Try.prog) Try.underlying22 Try.underlying5 Try.underlying9))
  go_ret
  exact ⟨rfl, next (next (next (next hb1 hb2) hb3) hb5) hb6⟩
theorem linesTwice_walk (w : World) (a0 : Option Addr) (len0 cap0 : Nat) (z0 : List Int) (s0 : Sl .u8 w a0 len0 cap0 z0) (f0 : ∀ n ∈ z0, (Lit.int .u8 n).wf = true) (c0 : cap0 * 1 ≤ 140737488351232)
    (a1 : Option Addr) (len1 cap1 : Nat) (hv : a1 = none → cap1 = 0 ∧ len1 = 0) (D : Nat → ChD) (hC : Chs w a1 len1 D) :
    Calls Try.prog 6 #[.slice a0 len0 cap0, .slice a1 len1 cap1] w fun e w' => e = .returned (.bool true) ∧ Below w.heap.size w w' := by
  have r0 := s0.room
  by_cases h64 : len0 % 64 = 0
  · cases hok : okA (len0 / 64) (saysN D len1) with
    | true =>
      cases hf : fewB D len1 with
      | true => exact twice_good w a0 len0 cap0 z0 s0 (bytes_wf f0) (by omega) h64 a1 len1 cap1 hv D hC hok hf
      | false => exact twice_great w a0 len0 cap0 z0 s0 (by omega) h64 a1 len1 cap1 D hC hok hf
    | false => exact twice_bad w a0 len0 cap0 a1 len1 cap1 D hC (fun w' hb => (apply_any a0 len0 cap0 z0 a1 len1 cap1 D w' (s0.below hb) (hC.below hb) h64 (by omega)).mono fun e w'' ⟨h1, h2, _⟩ => ⟨h2 hok, h1⟩)
  · exact twice_bad w a0 len0 cap0 a1 len1 cap1 D hC (fun w' hb => (apply_part a0 len0 cap0 a1 len1 cap1 w' (by omega) h64).mono fun e w'' ⟨h1, h2⟩ => ⟨h1, by rw [h2]; exact Below.refl _ _⟩)
end Go.Proofs.Ytjmmppphdmpceaa
