/- handle.Right, Code, Of and Compare by their contracts. -/
import Derived.Test.YtmefepjjlhphnaaRefHand
namespace Go.Proofs.Ytmefepjjlhphnaa
set_option maxRecDepth 100000
open Go.RowKit
set_option linter.unusedVariables false
set_option linter.unusedSimpArgs false
set_option maxRecDepth 100000

theorem hRight_any (I G : Int) (w : World) :
    Calls Try.prog 29 #[.agg #[.int .i64 I, .int .i64 G]] w fun e w' => e = .returned (.bool (rightHB I G)) ∧ Below w.heap.size w w' := by
  go_enter Try.func29, Try.ntmps29
  go_wp2
  all_goals (go_ret; refine ⟨ret_bool ?_, (Below.refl _ w).alloc (Nat.le_refl _) _⟩)
  all_goals (rw [Bool.eq_iff_iff, rightHB_iff]; simp only [decide_eq_true_eq, Bool.false_eq_true, false_iff]; omega)
/-- 'cmp.Compare(a, b)'. -/
def cmpI (a b : Int) : Int := if a < b then -1 else if a = b then 0 else 1
theorem cmpI_less {a b : Int} (h : a < b) : cmpI a b = -1 := if_pos h
theorem cmpI_same {a b : Int} (h : a = b) : cmpI a b = 0 := by unfold cmpI; rw [if_neg (by omega), if_pos h]
theorem cmpI_more {a b : Int} (h : ¬ a < b) (k : ¬ a = b) : cmpI a b = 1 := by unfold cmpI; rw [if_neg h, if_neg k]
theorem cmpH_I {I G J K : Int} (h : I ≠ J) : cmpI I J = cmpH I G J K := by
  by_cases h1 : I < J
  · rw [cmpI_less h1, cmpH_less (.inl h1)]
  · rw [cmpI_more h1 h, cmpH_more (by omega) (by omega)]
theorem cmpH_G {I G K : Int} : cmpI G K = cmpH I G I K := by
  by_cases h1 : G < K
  · rw [cmpI_less h1, cmpH_less (.inr ⟨rfl, h1⟩)]
  · by_cases h2 : G = K
    · rw [cmpI_same h2, cmpH_same ⟨rfl, h2⟩]
    · rw [cmpI_more h1 h2, cmpH_more (by omega) (by omega)]
end Go.Proofs.Ytmefepjjlhphnaa
