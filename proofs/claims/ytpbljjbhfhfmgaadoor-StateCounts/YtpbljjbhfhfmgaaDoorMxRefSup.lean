/- RefSup · RefSuq: these texts, one behind another. -/
import Derived.Test.YtpbljjbhfhfmgaaDoorMxRow
import Derived.Test.YtpbljjbhfhfmgaaDoorMxNtP
import Derived.Test.YtpbljjbhfhfmgaaDoorMxRefOf
import Derived.Test.YtpbljjbhfhfmgaaDoorMxSeal
import Derived.LoopTactic
import Derived.WalkKit
import Derived.Lib.Strings
/- joistref17.Right, Write, Name, Mode by their contracts. -/
namespace Go.Proofs.YtpbljjbhfhfmgaaDoor
set_option maxRecDepth 100000
open Go.RowKit
set_option linter.unusedVariables false
set_option linter.unusedSimpArgs false
set_option maxRecDepth 100000

/-- Seven numbers in a row of their own. -/
theorem sl_seven (w : World) (x0 x1 x2 x3 x4 x5 x6 : Int) : Sl .i64 (w.alloc (.cells #[.int .i64 x0, .int .i64 x1, .int .i64 x2, .int .i64 x3, .int .i64 x4, .int .i64 x5, .int .i64 x6] 3)) (some ⟨w.heap.size, 0, none⟩) 7 7 [x0, x1, x2, x3, x4, x5, x6] := by
  refine ⟨rfl, Nat.le_refl _, (by intro h; cases h), fun _ => ⟨_, _, rfl, by simp, fun i hi => ?_⟩⟩
  obtain rfl | rfl | rfl | rfl | rfl | rfl | rfl : i = 0 ∨ i = 1 ∨ i = 2 ∨ i = 3 ∨ i = 4 ∨ i = 5 ∨ i = 6 := by omega
  all_goals simp
end Go.Proofs.YtpbljjbhfhfmgaaDoor
/- joistref17.Mode by its contract. -/
namespace Go.Proofs.YtpbljjbhfhfmgaaDoor
set_option maxRecDepth 100000
open Go.RowKit
set_option linter.unusedVariables false
set_option linter.unusedSimpArgs false
set_option maxRecDepth 100000

theorem nm_same (m : Int) (t : ByteArray) : ((nmT m).toList == t.toList) = decide (nmL m = t.data.toList) := by
  rw [Lib.toList_data, Lib.toList_data, Bool.eq_iff_iff, beq_iff_eq, decide_eq_true_eq]
  unfold nmT
  simp
theorem md_at {t : List UInt8} {k : Nat} (h1 : 1 ≤ k) (h2 : k ≤ 4) (h : nmL k = t) : mdN t = k ∧ mdB t = true := by
  obtain rfl | rfl | rfl | rfl : k = 1 ∨ k = 2 ∨ k = 3 ∨ k = 4 := by omega
  all_goals (subst h; decide)
theorem md_no {t : List UInt8} (h : ∀ k : Nat, 1 ≤ k → k < 5 → nmL k ≠ t) : mdN t = 0 ∧ mdB t = false := by
  have h1 := h 1 (by omega) (by omega)
  have h2 := h 2 (by omega) (by omega)
  have h3 := h 3 (by omega) (by omega)
  have h4 := h 4 (by omega) (by omega)
  have e : mdN t = 0 := by
    unfold mdN
    rw [if_neg (fun e => h1 (by rw [e]; decide)), if_neg (fun e => h2 (by rw [e]; decide)), if_neg (fun e => h3 (by rw [e]; decide)), if_neg (fun e => h4 (by rw [e]; decide))]
  refine ⟨e, ?_⟩
  unfold mdB
  rw [e]
  rfl
end Go.Proofs.YtpbljjbhfhfmgaaDoor
