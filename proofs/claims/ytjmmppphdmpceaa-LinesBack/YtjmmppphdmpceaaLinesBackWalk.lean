/- The law 'LinesBack', walked. -/
import Derived.Test.YtjmmppphdmpceaaSmallLines
import Derived.Test.YtjmmppphdmpceaaDiffQ
namespace Go.Proofs.Ytjmmppphdmpceaa
open Go.RowKit
set_option linter.unusedVariables false

theorem back_good (w : World) (a0 : Option Addr) (len0 cap0 : Nat) (z0 : List Int) (s0 : Sl .u8 w a0 len0 cap0 z0) (b0 : Bytes z0) (m0 : len0 ≤ 140737488351232) (c0 : cap0 ≤ 9223372036854775807)
    (a1 : Option Addr) (cap1 : Nat) (z1 : List Int) (s1 : Sl .u8 w a1 len0 cap1 z1) (b1 : Bytes z1) (c1 : cap1 ≤ 9223372036854775807) (h64 : len0 % 64 = 0) :
    Calls Try.prog 5 #[.slice a0 len0 cap0, .slice a1 len0 cap1] w fun e w' => e = .returned (.bool true) ∧ Below w.heap.size w w' := by
  have hl0 := s0.len
  have hl1 := s1.len
  have n0 : len0 ≤ 140737488355328 := by omega
  have n9 : len0 ≤ 9223372036854775807 := by omega
  obtain ⟨N, hN⟩ : ∃ N, len0 / 64 = N := ⟨_, rfl⟩
  have hx : z0.length = 64 * N := by omega
  have hy : z1.length = 64 * N := by omega
  have tA : True := trivial
  go_enter Try.func5, Try.ntmps5
  go_wp2_with (first
    | (go_at_call 8; with_reducible refine (small_any _).mono ?_; rintro e w1 ⟨rfl, hb1⟩; have p0 := s0.below hb1; have p1 := s1.below hb1)
    | (go_at_call 10; have _t := tA; with_reducible refine (diff_good _ _ _ z0 _ _ z1 _ p0 p1 b0 b1 h64 n0 c0 c1).mono ?_; rintro e w2 ⟨lo, k, lc, D, rfl, hD, hsay, hb2⟩; clear tA; have q0 := p0.below hb2; have q1 := p1.below hb2; rw [hN] at hsay;
       have hok : okA (len0 / 64) (saysN D k) = true := (by rw [hN, hsay]; exact ok_diff (by omega)); have hchs := hD.chs)
    | (go_at_call 17; with_reducible refine (apply_any _ _ _ z0 _ _ _ D _ q0 hchs h64 n0).mono ?_; rintro e w3 ⟨hb3, _, hgood⟩; obtain ⟨g, rfl, hown⟩ := hgood hok; rw [hsay, lay_diff_all hx hy] at hown; have r1 := q1.below hb3; have hchs3 := hchs.below hb3; have tx := hown.sl.text (P := Try.prog) Try.underlying22 Try.underlying5 Try.underlying9)
    | (go_at_call 10; with_reducible refine (diff_good _ _ _ z1 _ _ z1 _ hown.sl r1 b1 b1 h64 n0 n9 c1).mono ?_; rintro e w4 ⟨lo', k', lc', D', rfl, hD', hsay', hb4⟩; rw [hN, diff_self] at hsay';
       have hk0 : k' = 0 := (by have := congrArg List.length hsay'; rw [saysN_length] at this; exact this); subst hk0;
       have hchs4 := hchs3.below hb4; have tx := (hown.below hb4).sl.text (P := Try.prog) Try.underlying22 Try.underlying5 Try.underlying9; have ty := (r1.below hb4).text (P := Try.prog) Try.underlying22 Try.underlying5 Try.underlying9)
    | (go_at_call 19; with_reducible refine (right_any _ _ _ _ D _ hchs4).mono ?_; rintro e w5 ⟨rfl, hb5⟩; rw [right_diff (by omega) (by omega) hsay]))
  go_ret
  exact ⟨rfl, next (next (next (next hb1 hb2) hb3) hb4) hb5⟩
theorem back_bad (w : World) (a0 : Option Addr) (len0 cap0 : Nat) (a1 : Option Addr) (len1 cap1 : Nat) (k0 : len0 ≤ 140737488351232) (k1 : len1 ≤ 140737488351232) (hbad : ¬ (len0 % 64 = 0 ∧ len0 = len1)) :
    Calls Try.prog 5 #[.slice a0 len0 cap0, .slice a1 len1 cap1] w fun e w' => e = .returned (.bool true) ∧ Below w.heap.size w w' := by
  have j0 : len0 ≤ 9223372036854775807 := by omega
  have j1 : len1 ≤ 9223372036854775807 := by omega
  by_cases h : len0 = len1
  · subst h
    have h2 : ((len0 : Int) % 64 != 0) = true := by simp; omega
    have cD := fun w => diff_bad a0 len0 cap0 a1 len0 cap1 w j0 j1 hbad
    clear hbad
    go_enter Try.func5, Try.ntmps5
    go_wp2_with (first
      | (go_at_call 8; with_reducible refine (small_any _).mono ?_; rintro e w1 ⟨rfl, hb1⟩)
      | (go_at_call 10; with_reducible refine (cD _).mono ?_; rintro e w' ⟨rfl, rfl⟩))
    go_ret
    exact ⟨rfl, hb1⟩
  · have h2 : ((len0 : Int) != (len1 : Int)) = true := by simp; omega
    go_enter Try.func5, Try.ntmps5
    go_wp2_with (first
      | (go_at_call 8; with_reducible refine (small_any _).mono ?_; rintro e w1 ⟨rfl, hb1⟩)
      | (go_at_call 10; with_reducible refine (diff_bad _ _ _ _ _ _ _ j0 j1 hbad).mono ?_; rintro e w' ⟨rfl, rfl⟩))
    go_ret
    exact ⟨rfl, hb1⟩
theorem linesBack_walk (w : World) (a0 : Option Addr) (len0 cap0 : Nat) (z0 : List Int) (s0 : Sl .u8 w a0 len0 cap0 z0) (f0 : ∀ n ∈ z0, (Lit.int .u8 n).wf = true) (c0 : cap0 * 1 ≤ 140737488351232)
    (a1 : Option Addr) (len1 cap1 : Nat) (z1 : List Int) (s1 : Sl .u8 w a1 len1 cap1 z1) (f1 : ∀ n ∈ z1, (Lit.int .u8 n).wf = true) (c1 : cap1 * 1 ≤ 140737488351232) :
    Calls Try.prog 5 #[.slice a0 len0 cap0, .slice a1 len1 cap1] w fun e w' => e = .returned (.bool true) ∧ Below w.heap.size w w' := by
  have r0 := s0.room
  have r1 := s1.room
  by_cases h : len0 % 64 = 0 ∧ len0 = len1
  · obtain ⟨h64, rfl⟩ := h
    exact back_good w a0 len0 cap0 z0 s0 (bytes_wf f0) (by omega) (by omega) a1 cap1 z1 s1 (bytes_wf f1) (by omega) h64
  · exact back_bad w a0 len0 cap0 a1 len1 cap1 (by omega) (by omega) h
end Go.Proofs.Ytjmmppphdmpceaa
