/- cmp.Compare of numbers by its contract. -/
import Derived.Test.YtjmhgcopaphdiaaInfo
import Derived.WalkKit
import Derived.LoopTactic
namespace Go.Proofs.Ytjmhgcopaphdiaa
set_option maxRecDepth 100000
open Go.RowKit
set_option linter.unusedVariables false
set_option linter.unusedSimpArgs false
set_option maxRecDepth 100000

theorem isNaN_int (a : Int) (w : World) :
    Calls Try.prog 31 #[.int .i64 a] w fun e w' => e = .returned (.bool false) ∧ w = w' := by
  go_enter Try.func31, Try.ntmps31
  go_wp2
  go_ret
  exact ⟨rfl, rfl⟩
/-- 'cmp.Compare(a, b)'. -/
def cmpI (a b : Int) : Int := if a < b then -1 else if a = b then 0 else 1
theorem cmpI_less {a b : Int} (h : a < b) : cmpI a b = -1 := if_pos h
theorem cmpI_same {a b : Int} (h : a = b) : cmpI a b = 0 := by unfold cmpI; rw [if_neg (by omega), if_pos h]
theorem cmpI_more {a b : Int} (h : ¬ a < b) (k : ¬ a = b) : cmpI a b = 1 := by unfold cmpI; rw [if_neg h, if_neg k]
theorem compare_int (a b : Int) (w : World) :
    Calls Try.prog 30 #[.int .i64 a, .int .i64 b] w fun e w' => e = .returned (.int .i64 (cmpI a b)) ∧ w = w' := by
  go_enter Try.func30, Try.ntmps30
  go_wp2_with (first | (go_at_call 31; with_reducible refine (isNaN_int _ _).mono ?_; rintro e w' ⟨rfl, rfl⟩))
  all_goals (go_ret; refine ⟨?_, rfl⟩)
  all_goals first | (rw [cmpI_less (by omega)]; rfl) | (rw [cmpI_same (by omega)]; rfl) | (rw [cmpI_more (by omega) (by omega)]; rfl)
end Go.Proofs.Ytjmhgcopaphdiaa
