/- joistlaw07.HandleSteps: the walk. -/
import Derived.Test.YtfkiankalddgpaaDoorSmallHand
namespace Go.Proofs.YtfkiankalddgpaaDoor
set_option maxRecDepth 100000
open Go.RowKit
set_option linter.unusedVariables false
set_option linter.unusedSimpArgs false
set_option maxRecDepth 100000

theorem handleSteps_walk (w : World) (T : Tab w) (I G : Int) :
    Calls Tryd.prog 7 #[.agg #[.int .i64 I, .int .i64 G]] w fun e w' => e = .returned (.bool true) ∧ Below w.heap.size w w' := by
  have hb0 : Below w.heap.size w (w.alloc (.cells #[.int .i64 I, .int .i64 G] 23)) := (Below.refl _ w).alloc (Nat.le_refl _) _
  have A0 := box_new w I G
  have cC := hCode_any I G
  by_cases h : RightH I G
  · rw [(cod_t h).1, (cod_t h).2] at cC
    have h' : 0 ≤ I ∧ I < 32 ∧ 0 ≤ G ∧ G ≤ 65535 := h
    have hc : codeH I G = I * 65536 + G + 1 := rfl
    obtain ⟨n, hn⟩ : ∃ n, codeH I G = n := ⟨_, rfl⟩
    rw [hn] at cC hc
    have cO := fun w => hOf_any (n + 1) w (by omega) (by omega)
    have hn1 : 1 ≤ n ∧ n ≤ 2097152 := by omega
    by_cases hg : G < 65535
    · obtain ⟨e1, e2, e3⟩ := ofH_t (n := n + 1) (by omega)
      rw [e1, e2, e3, show (n + 1 - 1) / 65536 = I by omega, show (n + 1 - 1) % 65536 = G + 1 by omega] at cO
      have cD := hCompare_any I G I (G + 1)
      rw [cmpH_less (by omega)] at cD
      clear hc hn e1 e2 e3 h
      go_enter Tryd.func7, Tryd.ntmps7
      go_wp2_with (first
        | (go_at_call 8; with_reducible refine (small_any _ (T.kept hb0)).mono ?_; rintro e w1 ⟨rfl, hb1⟩; have A1 := A0.kept hb1; obtain ⟨p0, p1⟩ := A1.cells)
        | (go_at_call 9; with_reducible refine (cC _).mono ?_; rintro e w2 ⟨rfl, hb2⟩; have A2 := A1.kept hb2; obtain ⟨r0, r1⟩ := A2.cells)
        | (go_at_call 11; with_reducible refine (cO _).mono ?_; rintro e w3 ⟨rfl, hb3⟩; have A3 := (A2.kept hb3).more (.cells #[.int .i64 I, .int .i64 (G + 1)] 23); obtain ⟨s0, s1⟩ := A3.cells)
        | (go_at_call 19; with_reducible refine (cD _).mono ?_; rintro e w4 ⟨rfl, hb4⟩))
      go_ret
      exact ⟨rfl, nextA (next (next (next hb0 hb1) hb2) hb3) hb4⟩
    · obtain rfl : G = 65535 := by omega
      by_cases hi : I < 31
      · obtain ⟨e1, e2, e3⟩ := ofH_t (n := n + 1) (by omega)
        rw [e1, e2, e3, show (n + 1 - 1) / 65536 = I + 1 by omega, show (n + 1 - 1) % 65536 = 0 by omega] at cO
        have cD := hCompare_any I 65535 (I + 1) 0
        rw [cmpH_less (by omega)] at cD
        clear hc hn e1 e2 e3 h
        go_enter Tryd.func7, Tryd.ntmps7
        go_wp2_with (first
          | (go_at_call 8; with_reducible refine (small_any _ (T.kept hb0)).mono ?_; rintro e w1 ⟨rfl, hb1⟩; have A1 := A0.kept hb1; obtain ⟨p0, p1⟩ := A1.cells)
          | (go_at_call 9; with_reducible refine (cC _).mono ?_; rintro e w2 ⟨rfl, hb2⟩; have A2 := A1.kept hb2; obtain ⟨r0, r1⟩ := A2.cells)
          | (go_at_call 11; with_reducible refine (cO _).mono ?_; rintro e w3 ⟨rfl, hb3⟩; have A3 := (A2.kept hb3).more (.cells #[.int .i64 (I + 1), .int .i64 0] 23); obtain ⟨s0, s1⟩ := A3.cells)
          | (go_at_call 19; with_reducible refine (cD _).mono ?_; rintro e w4 ⟨rfl, hb4⟩))
        go_ret
        exact ⟨rfl, nextA (next (next (next hb0 hb1) hb2) hb3) hb4⟩
      · obtain rfl : I = 31 := by omega
        obtain ⟨e1, e2, e3⟩ := ofH_f (n := n + 1) (by omega)
        rw [e1, e2, e3] at cO
        clear hc hn e1 e2 e3 h
        go_enter Tryd.func7, Tryd.ntmps7
        go_wp2_with (first
          | (go_at_call 8; with_reducible refine (small_any _ (T.kept hb0)).mono ?_; rintro e w1 ⟨rfl, hb1⟩; have A1 := A0.kept hb1; obtain ⟨p0, p1⟩ := A1.cells)
          | (go_at_call 9; with_reducible refine (cC _).mono ?_; rintro e w2 ⟨rfl, hb2⟩; have A2 := A1.kept hb2; obtain ⟨r0, r1⟩ := A2.cells)
          | (go_at_call 11; with_reducible refine (cO _).mono ?_; rintro e w3 ⟨rfl, hb3⟩; have A3 := (A2.kept hb3).more (.cells #[.int .i64 0, .int .i64 0] 23); obtain ⟨s0, s1⟩ := A3.cells))
        go_ret
        exact ⟨rfl, (next (next (next hb0 hb1) hb2) hb3).alloc (next (next (next hb0 hb1) hb2) hb3).size _⟩
  · rw [(cod_f h).1, (cod_f h).2] at cC
    have cT := hText_any I G
    rw [textR_f h] at cT
    go_enter Tryd.func7, Tryd.ntmps7
    go_wp2_with (first
      | (go_at_call 8; with_reducible refine (small_any _ (T.kept hb0)).mono ?_; rintro e w1 ⟨rfl, hb1⟩; have A1 := A0.kept hb1; obtain ⟨p0, p1⟩ := A1.cells)
      | (go_at_call 9; with_reducible refine (cC _).mono ?_; rintro e w2 ⟨rfl, hb2⟩; have A2 := A1.kept hb2; obtain ⟨r0, r1⟩ := A2.cells)
      | (go_at_call 17; with_reducible refine (cT _ (T.kept (next (next hb0 hb1) hb2))).mono ?_; rintro e w3 ⟨rfl, hb3⟩))
    go_ret
    exact ⟨rfl, next (next (next hb0 hb1) hb2) hb3⟩
end Go.Proofs.YtfkiankalddgpaaDoor
