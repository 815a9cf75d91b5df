/- 'GapsNeeds' walked: the need rises with the bytes, by multiples of Unit, and holds them. -/
import Derived.Test.YtjmhgcopaphdiaaSmallGap
namespace Go.Proofs.Ytjmhgcopaphdiaa
set_option maxRecDepth 100000
open Go.RowKit
set_option linter.unusedVariables false
set_option linter.unusedSimpArgs false
set_option maxRecDepth 100000

theorem gapsNeeds_walk (w : World) (n : Int) (hw : (Lit.int .i64 n).wf = true) :
    Calls Try.prog 7 #[.int .i64 n] w fun e w' => e = .returned (.bool true) ∧ Below w.heap.size w w' := by
  obtain ⟨h0, h1⟩ := bounds_i64 hw
  clear hw
  by_cases h : 1 ≤ n ∧ n ≤ 2048
  · obtain ⟨e1, e2⟩ := nd_t h
    have c1 := fun w' => need_any n w'
    have c2 := fun w' => need_any (n + 1) w'
    rw [e2] at c1
    obtain ⟨a, ha⟩ : ∃ a, ndN n = a := ⟨_, rfl⟩
    rw [ha] at c1 e1
    have a1 : 4 ≤ a := by omega
    have a2 : a ≤ 300 := by omega
    have a3 : a % 4 = 0 := by omega
    have a4 : n ≤ 8 * (a - 2) := by omega
    have a5 : 8 * (a - 2 - 4) < n := by omega
    have n1 : 1 ≤ n := h.1
    have n2 : n ≤ 2048 := h.2
    by_cases h2 : n = 2048
    · subst h2
      have c3 := fun w' => need_any 2049 w'
      obtain ⟨e3, e4⟩ := nd_f (n := 2049) (by omega)
      rw [e3, e4] at c3
      clear c2
      clear e1 e2 e3 e4 ha h h0 h1
      go_enter Try.func7, Try.ntmps7
      go_wp2_with (first
        | (go_at_call 9; with_reducible refine (smallP_any _).mono ?_; rintro e w1 ⟨rfl, hb1⟩)
        | (go_at_call 10; with_reducible refine (c1 _).mono ?_; rintro e w2 ⟨rfl, rfl⟩)
        | (go_at_call 10; with_reducible refine (c3 _).mono ?_; rintro e w3 ⟨rfl, rfl⟩))
      all_goals first | (go_ret; exact ⟨rfl, hb1⟩) | (exfalso; omega)
    · obtain ⟨e3, e4⟩ := nd_t (n := n + 1) (by omega)
      obtain ⟨b, hb⟩ : ∃ b, ndN (n + 1) = b := ⟨_, rfl⟩
      rw [hb] at e3
      rw [hb, e4] at c2
      have b1 : b = a ∨ b = a + 4 := by omega
      have h2' : ¬ n = 2048 := h2
      have h3 : (n == 2048) = false := by simpa using h2
      clear e1 e2 e3 e4 ha hb h h0 h1
      rcases b1 with rfl | rfl
      · go_enter Try.func7, Try.ntmps7
        go_wp2_with (first
          | (go_at_call 9; with_reducible refine (smallP_any _).mono ?_; rintro e w1 ⟨rfl, hb1⟩)
          | (go_at_call 10; with_reducible refine (c1 _).mono ?_; rintro e w2 ⟨rfl, rfl⟩)
          | (go_at_call 10; with_reducible refine (c2 _).mono ?_; rintro e w3 ⟨rfl, rfl⟩))
        all_goals first | (go_ret; exact ⟨rfl, hb1⟩) | (exfalso; omega)
      · have h5 : (a + 4 == a) = false := by simp; omega
        go_enter Try.func7, Try.ntmps7
        go_wp2_with (first
          | (go_at_call 9; with_reducible refine (smallP_any _).mono ?_; rintro e w1 ⟨rfl, hb1⟩)
          | (go_at_call 10; with_reducible refine (c1 _).mono ?_; rintro e w2 ⟨rfl, rfl⟩)
          | (go_at_call 10; with_reducible refine (c2 _).mono ?_; rintro e w3 ⟨rfl, rfl⟩))
        all_goals first | (go_ret; exact ⟨rfl, hb1⟩) | (exfalso; omega)
  · obtain ⟨e1, e2⟩ := nd_f h
    have c1 := fun w' => need_any n w'
    rw [e1, e2] at c1
    clear e1 e2
    by_cases h2 : n < 1
    · clear h
      go_enter Try.func7, Try.ntmps7
      go_wp2_with (first
        | (go_at_call 9; with_reducible refine (smallP_any _).mono ?_; rintro e w1 ⟨rfl, hb1⟩)
        | (go_at_call 10; with_reducible refine (c1 _).mono ?_; rintro e w2 ⟨rfl, rfl⟩))
      all_goals (go_ret; exact ⟨rfl, hb1⟩)
    · have h3 : 2048 < n := by omega
      clear h
      go_enter Try.func7, Try.ntmps7
      go_wp2_with (first
        | (go_at_call 9; with_reducible refine (smallP_any _).mono ?_; rintro e w1 ⟨rfl, hb1⟩)
        | (go_at_call 10; with_reducible refine (c1 _).mono ?_; rintro e w2 ⟨rfl, rfl⟩))
      all_goals (go_ret; exact ⟨rfl, hb1⟩)
end Go.Proofs.Ytjmhgcopaphdiaa
