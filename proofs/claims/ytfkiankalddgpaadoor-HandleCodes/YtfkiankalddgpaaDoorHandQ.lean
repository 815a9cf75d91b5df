/- handle.Right, Code, Of and Compare by their contracts. -/
import Derived.Test.YtfkiankalddgpaaDoorRefHand
namespace Go.Proofs.YtfkiankalddgpaaDoor
set_option maxRecDepth 100000
open Go.RowKit
set_option linter.unusedVariables false
set_option linter.unusedSimpArgs false
set_option maxRecDepth 100000

theorem hRight_any (I G : Int) (w : World) :
    Calls Tryd.prog 13 #[.agg #[.int .i64 I, .int .i64 G]] w fun e w' => e = .returned (.bool (rightHB I G)) ∧ Below w.heap.size w w' := by
  go_enter Tryd.func13, Tryd.ntmps13
  go_wp2
  all_goals (go_ret; refine ⟨ret_bool ?_, (Below.refl _ w).alloc (Nat.le_refl _) _⟩)
  all_goals (rw [Bool.eq_iff_iff, rightHB_iff]; simp only [decide_eq_true_eq, Bool.false_eq_true, false_iff]; omega)
theorem hCode_any (I G : Int) (w : World) :
    Calls Tryd.prog 9 #[.agg #[.int .i64 I, .int .i64 G]] w fun e w' => e = .returned (.tuple #[.int .i64 (codN I G), .int .i64 (codE I G)]) ∧ Below w.heap.size w w' := by
  have hb : Below w.heap.size w (w.alloc (.cells #[.int .i64 I, .int .i64 G] 23)) := (Below.refl _ w).alloc (Nat.le_refl _) _
  by_cases h : RightH I G
  · have hr := hRight_any I G
    rw [rightHB_t h] at hr
    rw [(cod_t h).1, (cod_t h).2]
    have h' : 0 ≤ I ∧ I < 32 ∧ 0 ≤ G ∧ G ≤ 65535 := h
    have hc : Hid (codeH I G = I * 65536 + G + 1) := rfl
    go_enter Tryd.func9, Tryd.ntmps9
    go_wp2_with (first | (go_at_call 13; with_reducible refine (hr _).mono ?_; rintro e w1 ⟨rfl, hb1⟩; obtain ⟨c0, c1⟩ := box_cells hb1))
    go_ret2
    refine ⟨?_, next hb hb1⟩
    rw [hc.out]
    rfl
  · have hr := hRight_any I G
    rw [rightHB_f h] at hr
    rw [(cod_f h).1, (cod_f h).2]
    go_enter Tryd.func9, Tryd.ntmps9
    go_wp2_with (first | (go_at_call 13; with_reducible refine (hr _).mono ?_; rintro e w1 ⟨rfl, hb1⟩))
    go_ret2
    exact ⟨rfl, next hb hb1⟩
theorem hOf_any (n : Int) (w : World) (h0 : -9223372036854775808 ≤ n) (h1 : n ≤ 9223372036854775807) :
    Calls Tryd.prog 11 #[.int .i64 n] w fun e w' => e = .returned (.tuple #[.agg #[.int .i64 (ofI n), .int .i64 (ofG n)], .bool (ofHB n)]) ∧ Below w.heap.size w w' := by
  by_cases h : 1 ≤ n ∧ n ≤ 2097152
  · obtain ⟨e1, e2, e3⟩ := ofH_t h
    rw [e1, e2, e3]
    go_enter Tryd.func11, Tryd.ntmps11
    go_wp2
    all_goals first | (exfalso; omega) | (refine bodyPost_ret (v := .tuple #[.agg #[.int .i64 ((n - 1) / 65536), .int .i64 ((n - 1) % 65536)], .bool true]) (by simp [results, Tryd.results11, go_sem]) rfl ⟨rfl, (Below.refl _ w).alloc (Nat.le_refl _) _⟩)
  · obtain ⟨e1, e2, e3⟩ := ofH_f h
    rw [e1, e2, e3]
    go_enter Tryd.func11, Tryd.ntmps11
    go_wp2
    all_goals first | (exfalso; omega) | (refine bodyPost_ret (v := .tuple #[.agg #[.int .i64 0, .int .i64 0], .bool false]) (by simp [results, Tryd.results11, go_sem]) rfl ⟨rfl, (Below.refl _ w).alloc (Nat.le_refl _) _⟩)
theorem isNaN_int (a : Int) (w : World) :
    Calls Tryd.prog 28 #[.int .i64 a] w fun e w' => e = .returned (.bool false) ∧ w = w' := by
  go_enter Tryd.func28, Tryd.ntmps28
  go_wp2
  go_ret
  exact ⟨rfl, rfl⟩
/-- 'cmp.Compare(a, b)'. -/
def cmpI (a b : Int) : Int := if a < b then -1 else if a = b then 0 else 1
theorem cmpI_less {a b : Int} (h : a < b) : cmpI a b = -1 := if_pos h
theorem cmpI_same {a b : Int} (h : a = b) : cmpI a b = 0 := by unfold cmpI; rw [if_neg (by omega), if_pos h]
theorem cmpI_more {a b : Int} (h : ¬ a < b) (k : ¬ a = b) : cmpI a b = 1 := by unfold cmpI; rw [if_neg h, if_neg k]
theorem compare_int (a b : Int) (w : World) :
    Calls Tryd.prog 25 #[.int .i64 a, .int .i64 b] w fun e w' => e = .returned (.int .i64 (cmpI a b)) ∧ w = w' := by
  go_enter Tryd.func25, Tryd.ntmps25
  go_wp2_with (first | (go_at_call 28; with_reducible refine (isNaN_int _ _).mono ?_; rintro e w' ⟨rfl, rfl⟩))
  all_goals (go_ret; refine ⟨?_, rfl⟩)
  all_goals first | (rw [cmpI_less (by omega)]; rfl) | (rw [cmpI_same (by omega)]; rfl) | (rw [cmpI_more (by omega) (by omega)]; rfl)
theorem cmpH_I {I G J K : Int} (h : I ≠ J) : cmpI I J = cmpH I G J K := by
  by_cases h1 : I < J
  · rw [cmpI_less h1, cmpH_less (.inl h1)]
  · rw [cmpI_more h1 h, cmpH_more (by omega) (by omega)]
theorem cmpH_G {I G K : Int} : cmpI G K = cmpH I G I K := by
  by_cases h1 : G < K
  · rw [cmpI_less h1, cmpH_less (.inr ⟨rfl, h1⟩)]
  · by_cases h2 : G = K
    · rw [cmpI_same h2, cmpH_same ⟨rfl, h2⟩]
    · rw [cmpI_more h1 h2, cmpH_more (by omega) (by omega)]
theorem hCompare_any (I G J K : Int) (w : World) :
    Calls Tryd.prog 19 #[.agg #[.int .i64 I, .int .i64 G], .agg #[.int .i64 J, .int .i64 K]] w fun e w' => e = .returned (.int .i64 (cmpH I G J K)) ∧ Below w.heap.size w w' := by
  have hb : Below w.heap.size w ((w.alloc (.cells #[.int .i64 I, .int .i64 G] 23)).alloc (.cells #[.int .i64 J, .int .i64 K] 23)) := ((Below.refl _ w).alloc (Nat.le_refl _) _).alloc (by simp) _
  by_cases hI : I = J
  · subst hI
    by_cases hG : G = K
    · subst hG
      rw [cmpH_same ⟨rfl, rfl⟩]
      go_enter Tryd.func19, Tryd.ntmps19
      go_wp2_with (first | (go_at_call 25; with_reducible refine (compare_int _ _ _).mono ?_; rintro e w' ⟨rfl, rfl⟩))
      go_ret
      exact ⟨rfl, hb⟩
    · rw [← cmpH_G]
      go_enter Tryd.func19, Tryd.ntmps19
      go_wp2_with (first | (go_at_call 25; with_reducible refine (compare_int _ _ _).mono ?_; rintro e w' ⟨rfl, rfl⟩))
      go_ret
      exact ⟨rfl, hb⟩
  · rw [← cmpH_I hI]
    go_enter Tryd.func19, Tryd.ntmps19
    go_wp2_with (first | (go_at_call 25; with_reducible refine (compare_int _ _ _).mono ?_; rintro e w' ⟨rfl, rfl⟩))
    go_ret
    exact ⟨rfl, hb⟩
end Go.Proofs.YtfkiankalddgpaaDoor
