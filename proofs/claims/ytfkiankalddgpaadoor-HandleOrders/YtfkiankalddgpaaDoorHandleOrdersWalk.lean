/- joistlaw07.HandleOrders: the walk. -/
import Derived.Test.YtfkiankalddgpaaDoorSmallHand
namespace Go.Proofs.YtfkiankalddgpaaDoor
set_option maxRecDepth 100000
open Go.RowKit
set_option linter.unusedVariables false
set_option linter.unusedSimpArgs false
set_option maxRecDepth 100000

theorem cmpH_three (I G J K : Int) : (cmpH I G J K = -1 ∧ cmpH J K I G = 1 ∧ (I < J ∨ (I = J ∧ G < K))) ∨ (cmpH I G J K = 0 ∧ cmpH J K I G = 0 ∧ I = J ∧ G = K) ∨ (cmpH I G J K = 1 ∧ cmpH J K I G = -1 ∧ (J < I ∨ (J = I ∧ K < G))) := by
  by_cases h1 : I < J ∨ (I = J ∧ G < K)
  · exact .inl ⟨cmpH_less h1, cmpH_more (by omega) (by omega), h1⟩
  · by_cases h2 : I = J ∧ G = K
    · exact .inr (.inl ⟨cmpH_same h2, cmpH_same ⟨h2.1.symm, h2.2.symm⟩, h2.1, h2.2⟩)
    · exact .inr (.inr ⟨cmpH_more h1 h2, cmpH_less (by omega), by omega⟩)
set_option maxHeartbeats 4000000 in
/-- The two numbers and the order, whatever they are. -/
theorem orders_core (w : World) (T : Tab w) (I G J K : Int) (x e y f c d : Int)
    (cA : ∀ w, Calls Tryd.prog 9 #[.agg #[.int .i64 I, .int .i64 G]] w fun e' w' => e' = .returned (.tuple #[.int .i64 x, .int .i64 e]) ∧ Below w.heap.size w w')
    (cB : ∀ w, Calls Tryd.prog 9 #[.agg #[.int .i64 J, .int .i64 K]] w fun e' w' => e' = .returned (.tuple #[.int .i64 y, .int .i64 f]) ∧ Below w.heap.size w w')
    (cC : ∀ w, Calls Tryd.prog 19 #[.agg #[.int .i64 I, .int .i64 G], .agg #[.int .i64 J, .int .i64 K]] w fun e' w' => e' = .returned (.int .i64 c) ∧ Below w.heap.size w w')
    (cD : ∀ w, Calls Tryd.prog 19 #[.agg #[.int .i64 J, .int .i64 K], .agg #[.int .i64 I, .int .i64 G]] w fun e' w' => e' = .returned (.int .i64 d) ∧ Below w.heap.size w w')
    (hcd : (c = -1 ∧ d = 1 ∧ ¬ (I = J ∧ G = K)) ∨ (c = 0 ∧ d = 0 ∧ I = J ∧ G = K) ∨ (c = 1 ∧ d = -1 ∧ ¬ (I = J ∧ G = K)))
    (hxy : Hid (e = 0 → f = 0 → (c < 0 ↔ x < y) ∧ (c = 0 ↔ x = y))) :
    Calls Tryd.prog 6 #[.agg #[.int .i64 I, .int .i64 G], .agg #[.int .i64 J, .int .i64 K]] w fun e w' => e = .returned (.bool true) ∧ Below w.heap.size w w' := by
  have hb0 : Below w.heap.size w ((w.alloc (.cells #[.int .i64 I, .int .i64 G] 23)).alloc (.cells #[.int .i64 J, .int .i64 K] 23)) := ((Below.refl _ w).alloc (Nat.le_refl _) _).alloc (by simp) _
  obtain ⟨A0, B0⟩ := box_two w I G J K
  have tA : True := trivial
  have tB : True := trivial
  have tC : True := trivial
  by_cases hef : e = 0 ∧ f = 0
  · obtain ⟨rfl, rfl⟩ := hef
    obtain ⟨k1, k2⟩ := hxy rfl rfl
    clear hxy
    rcases hcd with ⟨rfl, rfl, hne⟩ | ⟨rfl, rfl, rfl, rfl⟩ | ⟨rfl, rfl, hne⟩
    · have h1 : x < y := by omega
      have h2 : (x == y) = false := beq_eq_false_iff_ne.2 (by omega)
      clear k1 k2
      go_enter Tryd.func6, Tryd.ntmps6
      go_wp2_with (first
        | (go_at_call 8; with_reducible refine (small_any _ (T.kept hb0)).mono ?_; rintro e w1 ⟨rfl, hb1⟩; have A1 := A0.kept hb1; have B1 := B0.kept hb1; obtain ⟨p0, p1⟩ := A1.cells; obtain ⟨q0, q1⟩ := B1.cells)
        | (go_at_call 9; have _t := tA; with_reducible refine (cA _).mono ?_; rintro e w2 ⟨rfl, hb2⟩; clear tA; have A2 := A1.kept hb2; have B2 := B1.kept hb2; obtain ⟨r0, r1⟩ := A2.cells; obtain ⟨s0, s1⟩ := B2.cells)
        | (go_at_call 9; have _t := tB; with_reducible refine (cB _).mono ?_; rintro e w3 ⟨rfl, hb3⟩; clear tB; have A3 := A2.kept hb3; have B3 := B2.kept hb3; obtain ⟨t0, t1⟩ := A3.cells; obtain ⟨u0, u1⟩ := B3.cells)
        | (go_at_call 19; have _t := tC; with_reducible refine (cC _).mono ?_; rintro e w4 ⟨rfl, hb4⟩; clear tC; have A4 := A3.kept hb4; have B4 := B3.kept hb4; obtain ⟨v0, v1⟩ := A4.cells; obtain ⟨x0, x1⟩ := B4.cells)
        | (go_at_call 19; with_reducible refine (cD _).mono ?_; rintro e w5 ⟨rfl, hb5⟩; have A5 := A4.kept hb5; have B5 := B4.kept hb5; obtain ⟨y0, y1⟩ := A5.cells; obtain ⟨z0, z1⟩ := B5.cells))
      all_goals first
        | (go_ret; exact ⟨rfl, next (next (next (next (next hb0 hb1) hb2) hb3) hb4) hb5⟩)
        | (go_ret; refine ⟨ret_bool ?_, next (next (next (next (next hb0 hb1) hb2) hb3) hb4) hb5⟩; simp; omega)
        | (exfalso; omega)
    · have h1 : x = y := by omega
      subst h1
      clear k1 k2
      go_enter Tryd.func6, Tryd.ntmps6
      go_wp2_with (first
        | (go_at_call 8; with_reducible refine (small_any _ (T.kept hb0)).mono ?_; rintro e w1 ⟨rfl, hb1⟩; have A1 := A0.kept hb1; have B1 := B0.kept hb1; obtain ⟨p0, p1⟩ := A1.cells; obtain ⟨q0, q1⟩ := B1.cells)
        | (go_at_call 9; have _t := tA; with_reducible refine (cA _).mono ?_; rintro e w2 ⟨rfl, hb2⟩; clear tA; have A2 := A1.kept hb2; have B2 := B1.kept hb2; obtain ⟨r0, r1⟩ := A2.cells; obtain ⟨s0, s1⟩ := B2.cells)
        | (go_at_call 9; have _t := tB; with_reducible refine (cB _).mono ?_; rintro e w3 ⟨rfl, hb3⟩; clear tB; have A3 := A2.kept hb3; have B3 := B2.kept hb3; obtain ⟨t0, t1⟩ := A3.cells; obtain ⟨u0, u1⟩ := B3.cells)
        | (go_at_call 19; have _t := tC; with_reducible refine (cC _).mono ?_; rintro e w4 ⟨rfl, hb4⟩; clear tC; have A4 := A3.kept hb4; have B4 := B3.kept hb4; obtain ⟨v0, v1⟩ := A4.cells; obtain ⟨x0, x1⟩ := B4.cells)
        | (go_at_call 19; with_reducible refine (cD _).mono ?_; rintro e w5 ⟨rfl, hb5⟩; have A5 := A4.kept hb5; have B5 := B4.kept hb5; obtain ⟨y0, y1⟩ := A5.cells; obtain ⟨z0, z1⟩ := B5.cells))
      all_goals first
        | (go_ret; exact ⟨rfl, next (next (next (next (next hb0 hb1) hb2) hb3) hb4) hb5⟩)
        | (go_ret; refine ⟨ret_bool ?_, next (next (next (next (next hb0 hb1) hb2) hb3) hb4) hb5⟩; simp; omega)
        | (exfalso; omega)
    · have h1 : ¬ x < y := by omega
      have h2 : (x == y) = false := beq_eq_false_iff_ne.2 (by omega)
      clear k1 k2
      go_enter Tryd.func6, Tryd.ntmps6
      go_wp2_with (first
        | (go_at_call 8; with_reducible refine (small_any _ (T.kept hb0)).mono ?_; rintro e w1 ⟨rfl, hb1⟩; have A1 := A0.kept hb1; have B1 := B0.kept hb1; obtain ⟨p0, p1⟩ := A1.cells; obtain ⟨q0, q1⟩ := B1.cells)
        | (go_at_call 9; have _t := tA; with_reducible refine (cA _).mono ?_; rintro e w2 ⟨rfl, hb2⟩; clear tA; have A2 := A1.kept hb2; have B2 := B1.kept hb2; obtain ⟨r0, r1⟩ := A2.cells; obtain ⟨s0, s1⟩ := B2.cells)
        | (go_at_call 9; have _t := tB; with_reducible refine (cB _).mono ?_; rintro e w3 ⟨rfl, hb3⟩; clear tB; have A3 := A2.kept hb3; have B3 := B2.kept hb3; obtain ⟨t0, t1⟩ := A3.cells; obtain ⟨u0, u1⟩ := B3.cells)
        | (go_at_call 19; have _t := tC; with_reducible refine (cC _).mono ?_; rintro e w4 ⟨rfl, hb4⟩; clear tC; have A4 := A3.kept hb4; have B4 := B3.kept hb4; obtain ⟨v0, v1⟩ := A4.cells; obtain ⟨x0, x1⟩ := B4.cells)
        | (go_at_call 19; with_reducible refine (cD _).mono ?_; rintro e w5 ⟨rfl, hb5⟩; have A5 := A4.kept hb5; have B5 := B4.kept hb5; obtain ⟨y0, y1⟩ := A5.cells; obtain ⟨z0, z1⟩ := B5.cells))
      all_goals first
        | (go_ret; exact ⟨rfl, next (next (next (next (next hb0 hb1) hb2) hb3) hb4) hb5⟩)
        | (go_ret; refine ⟨ret_bool ?_, next (next (next (next (next hb0 hb1) hb2) hb3) hb4) hb5⟩; simp; omega)
        | (exfalso; omega)
  · clear hxy
    have hef1 : (e != 0) = true ∨ ((e != 0) = false ∧ (f != 0) = true) := by
      by_cases h : e = 0
      · exact .inr ⟨by simp [h], by simp; intro hf; exact hef ⟨h, hf⟩⟩
      · exact .inl (by simp [h])
    rcases hcd with ⟨rfl, rfl, hne⟩ | ⟨rfl, rfl, rfl, rfl⟩ | ⟨rfl, rfl, hne⟩
    · rcases hef1 with hef1 | ⟨hef0, hef1⟩
      · clear hef
        go_enter Tryd.func6, Tryd.ntmps6
        go_wp2_with (first
          | (go_at_call 8; with_reducible refine (small_any _ (T.kept hb0)).mono ?_; rintro e w1 ⟨rfl, hb1⟩; have A1 := A0.kept hb1; have B1 := B0.kept hb1; obtain ⟨p0, p1⟩ := A1.cells; obtain ⟨q0, q1⟩ := B1.cells)
          | (go_at_call 9; have _t := tA; with_reducible refine (cA _).mono ?_; rintro e w2 ⟨rfl, hb2⟩; clear tA; have A2 := A1.kept hb2; have B2 := B1.kept hb2; obtain ⟨r0, r1⟩ := A2.cells; obtain ⟨s0, s1⟩ := B2.cells)
          | (go_at_call 9; have _t := tB; with_reducible refine (cB _).mono ?_; rintro e w3 ⟨rfl, hb3⟩; clear tB; have A3 := A2.kept hb3; have B3 := B2.kept hb3; obtain ⟨t0, t1⟩ := A3.cells; obtain ⟨u0, u1⟩ := B3.cells)
          | (go_at_call 19; have _t := tC; with_reducible refine (cC _).mono ?_; rintro e w4 ⟨rfl, hb4⟩; clear tC; have A4 := A3.kept hb4; have B4 := B3.kept hb4; obtain ⟨v0, v1⟩ := A4.cells; obtain ⟨x0, x1⟩ := B4.cells)
          | (go_at_call 19; with_reducible refine (cD _).mono ?_; rintro e w5 ⟨rfl, hb5⟩; have A5 := A4.kept hb5; have B5 := B4.kept hb5; obtain ⟨y0, y1⟩ := A5.cells; obtain ⟨z0, z1⟩ := B5.cells))
        all_goals first
          | (go_ret; exact ⟨rfl, next (next (next (next (next hb0 hb1) hb2) hb3) hb4) hb5⟩)
          | (go_ret; refine ⟨ret_bool ?_, next (next (next (next (next hb0 hb1) hb2) hb3) hb4) hb5⟩; simp; omega)
          | (exfalso; omega)
      · clear hef
        go_enter Tryd.func6, Tryd.ntmps6
        go_wp2_with (first
          | (go_at_call 8; with_reducible refine (small_any _ (T.kept hb0)).mono ?_; rintro e w1 ⟨rfl, hb1⟩; have A1 := A0.kept hb1; have B1 := B0.kept hb1; obtain ⟨p0, p1⟩ := A1.cells; obtain ⟨q0, q1⟩ := B1.cells)
          | (go_at_call 9; have _t := tA; with_reducible refine (cA _).mono ?_; rintro e w2 ⟨rfl, hb2⟩; clear tA; have A2 := A1.kept hb2; have B2 := B1.kept hb2; obtain ⟨r0, r1⟩ := A2.cells; obtain ⟨s0, s1⟩ := B2.cells)
          | (go_at_call 9; have _t := tB; with_reducible refine (cB _).mono ?_; rintro e w3 ⟨rfl, hb3⟩; clear tB; have A3 := A2.kept hb3; have B3 := B2.kept hb3; obtain ⟨t0, t1⟩ := A3.cells; obtain ⟨u0, u1⟩ := B3.cells)
          | (go_at_call 19; have _t := tC; with_reducible refine (cC _).mono ?_; rintro e w4 ⟨rfl, hb4⟩; clear tC; have A4 := A3.kept hb4; have B4 := B3.kept hb4; obtain ⟨v0, v1⟩ := A4.cells; obtain ⟨x0, x1⟩ := B4.cells)
          | (go_at_call 19; with_reducible refine (cD _).mono ?_; rintro e w5 ⟨rfl, hb5⟩; have A5 := A4.kept hb5; have B5 := B4.kept hb5; obtain ⟨y0, y1⟩ := A5.cells; obtain ⟨z0, z1⟩ := B5.cells))
        all_goals first
          | (go_ret; exact ⟨rfl, next (next (next (next (next hb0 hb1) hb2) hb3) hb4) hb5⟩)
          | (go_ret; refine ⟨ret_bool ?_, next (next (next (next (next hb0 hb1) hb2) hb3) hb4) hb5⟩; simp; omega)
          | (exfalso; omega)
    · rcases hef1 with hef1 | ⟨hef0, hef1⟩
      · clear hef
        go_enter Tryd.func6, Tryd.ntmps6
        go_wp2_with (first
          | (go_at_call 8; with_reducible refine (small_any _ (T.kept hb0)).mono ?_; rintro e w1 ⟨rfl, hb1⟩; have A1 := A0.kept hb1; have B1 := B0.kept hb1; obtain ⟨p0, p1⟩ := A1.cells; obtain ⟨q0, q1⟩ := B1.cells)
          | (go_at_call 9; have _t := tA; with_reducible refine (cA _).mono ?_; rintro e w2 ⟨rfl, hb2⟩; clear tA; have A2 := A1.kept hb2; have B2 := B1.kept hb2; obtain ⟨r0, r1⟩ := A2.cells; obtain ⟨s0, s1⟩ := B2.cells)
          | (go_at_call 9; have _t := tB; with_reducible refine (cB _).mono ?_; rintro e w3 ⟨rfl, hb3⟩; clear tB; have A3 := A2.kept hb3; have B3 := B2.kept hb3; obtain ⟨t0, t1⟩ := A3.cells; obtain ⟨u0, u1⟩ := B3.cells)
          | (go_at_call 19; have _t := tC; with_reducible refine (cC _).mono ?_; rintro e w4 ⟨rfl, hb4⟩; clear tC; have A4 := A3.kept hb4; have B4 := B3.kept hb4; obtain ⟨v0, v1⟩ := A4.cells; obtain ⟨x0, x1⟩ := B4.cells)
          | (go_at_call 19; with_reducible refine (cD _).mono ?_; rintro e w5 ⟨rfl, hb5⟩; have A5 := A4.kept hb5; have B5 := B4.kept hb5; obtain ⟨y0, y1⟩ := A5.cells; obtain ⟨z0, z1⟩ := B5.cells))
        all_goals first
          | (go_ret; exact ⟨rfl, next (next (next (next (next hb0 hb1) hb2) hb3) hb4) hb5⟩)
          | (go_ret; refine ⟨ret_bool ?_, next (next (next (next (next hb0 hb1) hb2) hb3) hb4) hb5⟩; simp; omega)
          | (exfalso; omega)
      · clear hef
        go_enter Tryd.func6, Tryd.ntmps6
        go_wp2_with (first
          | (go_at_call 8; with_reducible refine (small_any _ (T.kept hb0)).mono ?_; rintro e w1 ⟨rfl, hb1⟩; have A1 := A0.kept hb1; have B1 := B0.kept hb1; obtain ⟨p0, p1⟩ := A1.cells; obtain ⟨q0, q1⟩ := B1.cells)
          | (go_at_call 9; have _t := tA; with_reducible refine (cA _).mono ?_; rintro e w2 ⟨rfl, hb2⟩; clear tA; have A2 := A1.kept hb2; have B2 := B1.kept hb2; obtain ⟨r0, r1⟩ := A2.cells; obtain ⟨s0, s1⟩ := B2.cells)
          | (go_at_call 9; have _t := tB; with_reducible refine (cB _).mono ?_; rintro e w3 ⟨rfl, hb3⟩; clear tB; have A3 := A2.kept hb3; have B3 := B2.kept hb3; obtain ⟨t0, t1⟩ := A3.cells; obtain ⟨u0, u1⟩ := B3.cells)
          | (go_at_call 19; have _t := tC; with_reducible refine (cC _).mono ?_; rintro e w4 ⟨rfl, hb4⟩; clear tC; have A4 := A3.kept hb4; have B4 := B3.kept hb4; obtain ⟨v0, v1⟩ := A4.cells; obtain ⟨x0, x1⟩ := B4.cells)
          | (go_at_call 19; with_reducible refine (cD _).mono ?_; rintro e w5 ⟨rfl, hb5⟩; have A5 := A4.kept hb5; have B5 := B4.kept hb5; obtain ⟨y0, y1⟩ := A5.cells; obtain ⟨z0, z1⟩ := B5.cells))
        all_goals first
          | (go_ret; exact ⟨rfl, next (next (next (next (next hb0 hb1) hb2) hb3) hb4) hb5⟩)
          | (go_ret; refine ⟨ret_bool ?_, next (next (next (next (next hb0 hb1) hb2) hb3) hb4) hb5⟩; simp; omega)
          | (exfalso; omega)
    · rcases hef1 with hef1 | ⟨hef0, hef1⟩
      · clear hef
        go_enter Tryd.func6, Tryd.ntmps6
        go_wp2_with (first
          | (go_at_call 8; with_reducible refine (small_any _ (T.kept hb0)).mono ?_; rintro e w1 ⟨rfl, hb1⟩; have A1 := A0.kept hb1; have B1 := B0.kept hb1; obtain ⟨p0, p1⟩ := A1.cells; obtain ⟨q0, q1⟩ := B1.cells)
          | (go_at_call 9; have _t := tA; with_reducible refine (cA _).mono ?_; rintro e w2 ⟨rfl, hb2⟩; clear tA; have A2 := A1.kept hb2; have B2 := B1.kept hb2; obtain ⟨r0, r1⟩ := A2.cells; obtain ⟨s0, s1⟩ := B2.cells)
          | (go_at_call 9; have _t := tB; with_reducible refine (cB _).mono ?_; rintro e w3 ⟨rfl, hb3⟩; clear tB; have A3 := A2.kept hb3; have B3 := B2.kept hb3; obtain ⟨t0, t1⟩ := A3.cells; obtain ⟨u0, u1⟩ := B3.cells)
          | (go_at_call 19; have _t := tC; with_reducible refine (cC _).mono ?_; rintro e w4 ⟨rfl, hb4⟩; clear tC; have A4 := A3.kept hb4; have B4 := B3.kept hb4; obtain ⟨v0, v1⟩ := A4.cells; obtain ⟨x0, x1⟩ := B4.cells)
          | (go_at_call 19; with_reducible refine (cD _).mono ?_; rintro e w5 ⟨rfl, hb5⟩; have A5 := A4.kept hb5; have B5 := B4.kept hb5; obtain ⟨y0, y1⟩ := A5.cells; obtain ⟨z0, z1⟩ := B5.cells))
        all_goals first
          | (go_ret; exact ⟨rfl, next (next (next (next (next hb0 hb1) hb2) hb3) hb4) hb5⟩)
          | (go_ret; refine ⟨ret_bool ?_, next (next (next (next (next hb0 hb1) hb2) hb3) hb4) hb5⟩; simp; omega)
          | (exfalso; omega)
      · clear hef
        go_enter Tryd.func6, Tryd.ntmps6
        go_wp2_with (first
          | (go_at_call 8; with_reducible refine (small_any _ (T.kept hb0)).mono ?_; rintro e w1 ⟨rfl, hb1⟩; have A1 := A0.kept hb1; have B1 := B0.kept hb1; obtain ⟨p0, p1⟩ := A1.cells; obtain ⟨q0, q1⟩ := B1.cells)
          | (go_at_call 9; have _t := tA; with_reducible refine (cA _).mono ?_; rintro e w2 ⟨rfl, hb2⟩; clear tA; have A2 := A1.kept hb2; have B2 := B1.kept hb2; obtain ⟨r0, r1⟩ := A2.cells; obtain ⟨s0, s1⟩ := B2.cells)
          | (go_at_call 9; have _t := tB; with_reducible refine (cB _).mono ?_; rintro e w3 ⟨rfl, hb3⟩; clear tB; have A3 := A2.kept hb3; have B3 := B2.kept hb3; obtain ⟨t0, t1⟩ := A3.cells; obtain ⟨u0, u1⟩ := B3.cells)
          | (go_at_call 19; have _t := tC; with_reducible refine (cC _).mono ?_; rintro e w4 ⟨rfl, hb4⟩; clear tC; have A4 := A3.kept hb4; have B4 := B3.kept hb4; obtain ⟨v0, v1⟩ := A4.cells; obtain ⟨x0, x1⟩ := B4.cells)
          | (go_at_call 19; with_reducible refine (cD _).mono ?_; rintro e w5 ⟨rfl, hb5⟩; have A5 := A4.kept hb5; have B5 := B4.kept hb5; obtain ⟨y0, y1⟩ := A5.cells; obtain ⟨z0, z1⟩ := B5.cells))
        all_goals first
          | (go_ret; exact ⟨rfl, next (next (next (next (next hb0 hb1) hb2) hb3) hb4) hb5⟩)
          | (go_ret; refine ⟨ret_bool ?_, next (next (next (next (next hb0 hb1) hb2) hb3) hb4) hb5⟩; simp; omega)
          | (exfalso; omega)
theorem handleOrders_walk (w : World) (T : Tab w) (I G J K : Int) :
    Calls Tryd.prog 6 #[.agg #[.int .i64 I, .int .i64 G], .agg #[.int .i64 J, .int .i64 K]] w fun e w' => e = .returned (.bool true) ∧ Below w.heap.size w w' := by
  refine orders_core w T I G J K _ _ _ _ _ _ (hCode_any I G) (hCode_any J K) (hCompare_any I G J K) (hCompare_any J K I G) ?_ (fun h1 h2 => ?_)
  · rcases cmpH_three I G J K with ⟨h1, h2, h3⟩ | ⟨h1, h2, h3⟩ | ⟨h1, h2, h3⟩
    · exact .inl ⟨h1, h2, by omega⟩
    · exact .inr (.inl ⟨h1, h2, h3⟩)
    · exact .inr (.inr ⟨h1, h2, by omega⟩)
  · have r1 : RightH I G := by
      by_cases h : RightH I G
      · exact h
      · rw [(cod_f h).2] at h1; exact absurd h1 (by decide)
    have r2 : RightH J K := by
      by_cases h : RightH J K
      · exact h
      · rw [(cod_f h).2] at h2; exact absurd h2 (by decide)
    rw [(cod_t r1).1, (cod_t r2).1]
    unfold RightH at r1 r2
    unfold codeH
    rcases cmpH_three I G J K with ⟨h1, h2, h3⟩ | ⟨h1, h2, h3⟩ | ⟨h1, h2, h3⟩ <;> rw [h1] <;> omega
end Go.Proofs.YtfkiankalddgpaaDoor
