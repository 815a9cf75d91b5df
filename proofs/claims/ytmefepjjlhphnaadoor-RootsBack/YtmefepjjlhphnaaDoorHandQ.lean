/- handle.Right, Code, Of and Compare by their contracts. -/
import Derived.Test.YtmefepjjlhphnaaDoorRefHand
namespace Go.Proofs.YtmefepjjlhphnaaDoor
set_option maxRecDepth 100000
open Go.RowKit
set_option linter.unusedVariables false
set_option linter.unusedSimpArgs false
set_option maxRecDepth 100000

theorem hRight_any (I G : Int) (w : World) :
    Calls Tryd.prog 32 #[.agg #[.int .i64 I, .int .i64 G]] w fun e w' => e = .returned (.bool (rightHB I G)) ∧ Below w.heap.size w w' := by
  go_enter Tryd.func32, Tryd.ntmps32
  go_wp2
  all_goals (go_ret; refine ⟨ret_bool ?_, (Below.refl _ w).alloc (Nat.le_refl _) _⟩)
  all_goals (rw [Bool.eq_iff_iff, rightHB_iff]; simp only [decide_eq_true_eq, Bool.false_eq_true, false_iff]; omega)
theorem hCode_any (I G : Int) (w : World) :
    Calls Tryd.prog 50 #[.agg #[.int .i64 I, .int .i64 G]] w fun e w' => e = .returned (.tuple #[.int .i64 (codN I G), .int .i64 (codE I G)]) ∧ Below w.heap.size w w' := by
  have hb : Below w.heap.size w (w.alloc (.cells #[.int .i64 I, .int .i64 G] 41)) := (Below.refl _ w).alloc (Nat.le_refl _) _
  by_cases h : RightH I G
  · have hr := hRight_any I G
    rw [rightHB_t h] at hr
    rw [(cod_t h).1, (cod_t h).2]
    have h' : 0 ≤ I ∧ I < 32 ∧ 0 ≤ G ∧ G ≤ 65535 := h
    have hc : Hid (codeH I G = I * 65536 + G + 1) := rfl
    go_enter Tryd.func50, Tryd.ntmps50
    go_wp2_with (first | (go_at_call 32; with_reducible refine (hr _).mono ?_; rintro e w1 ⟨rfl, hb1⟩; obtain ⟨c0, c1⟩ := box_cells hb1))
    go_ret2
    refine ⟨?_, next hb hb1⟩
    rw [hc.out]
    rfl
  · have hr := hRight_any I G
    rw [rightHB_f h] at hr
    rw [(cod_f h).1, (cod_f h).2]
    go_enter Tryd.func50, Tryd.ntmps50
    go_wp2_with (first | (go_at_call 32; with_reducible refine (hr _).mono ?_; rintro e w1 ⟨rfl, hb1⟩))
    go_ret2
    exact ⟨rfl, next hb hb1⟩
theorem hOf_any (n : Int) (w : World) (h0 : -9223372036854775808 ≤ n) (h1 : n ≤ 9223372036854775807) :
    Calls Tryd.prog 40 #[.int .i64 n] w fun e w' => e = .returned (.tuple #[.agg #[.int .i64 (ofI n), .int .i64 (ofG n)], .bool (ofHB n)]) ∧ Below w.heap.size w w' := by
  by_cases h : 1 ≤ n ∧ n ≤ 2097152
  · obtain ⟨e1, e2, e3⟩ := ofH_t h
    rw [e1, e2, e3]
    go_enter Tryd.func40, Tryd.ntmps40
    go_wp2
    all_goals first | (exfalso; omega) | (refine bodyPost_ret (v := .tuple #[.agg #[.int .i64 ((n - 1) / 65536), .int .i64 ((n - 1) % 65536)], .bool true]) (by simp [results, Tryd.results40, go_sem]) rfl ⟨rfl, (Below.refl _ w).alloc (Nat.le_refl _) _⟩)
  · obtain ⟨e1, e2, e3⟩ := ofH_f h
    rw [e1, e2, e3]
    go_enter Tryd.func40, Tryd.ntmps40
    go_wp2
    all_goals first | (exfalso; omega) | (refine bodyPost_ret (v := .tuple #[.agg #[.int .i64 0, .int .i64 0], .bool false]) (by simp [results, Tryd.results40, go_sem]) rfl ⟨rfl, (Below.refl _ w).alloc (Nat.le_refl _) _⟩)
/-- 'cmp.Compare(a, b)'. -/
def cmpI (a b : Int) : Int := if a < b then -1 else if a = b then 0 else 1
theorem cmpI_less {a b : Int} (h : a < b) : cmpI a b = -1 := if_pos h
theorem cmpI_same {a b : Int} (h : a = b) : cmpI a b = 0 := by unfold cmpI; rw [if_neg (by omega), if_pos h]
theorem cmpI_more {a b : Int} (h : ¬ a < b) (k : ¬ a = b) : cmpI a b = 1 := by unfold cmpI; rw [if_neg h, if_neg k]
theorem cmpH_I {I G J K : Int} (h : I ≠ J) : cmpI I J = cmpH I G J K := by
  by_cases h1 : I < J
  · rw [cmpI_less h1, cmpH_less (.inl h1)]
  · rw [cmpI_more h1 h, cmpH_more (by omega) (by omega)]
theorem cmpH_G {I G K : Int} : cmpI G K = cmpH I G I K := by
  by_cases h1 : G < K
  · rw [cmpI_less h1, cmpH_less (.inr ⟨rfl, h1⟩)]
  · by_cases h2 : G = K
    · rw [cmpI_same h2, cmpH_same ⟨rfl, h2⟩]
    · rw [cmpI_more h1 h2, cmpH_more (by omega) (by omega)]
end Go.Proofs.YtmefepjjlhphnaaDoor
