/- joistref17.Mode by its contract. -/
import Derived.Test.YtfglbhdfdpnnfaaDoorRefSup
import Derived.LoopTactic
import Derived.WalkKit
import Derived.Lib.Strings
namespace Go.Proofs.YtfglbhdfdpnnfaaDoor
set_option maxRecDepth 100000
open Go.RowKit
set_option linter.unusedVariables false
set_option linter.unusedSimpArgs false
set_option maxRecDepth 100000

theorem nm_same (m : Int) (t : ByteArray) : ((nmT m).toList == t.toList) = decide (nmL m = t.data.toList) := by
  rw [Lib.toList_data, Lib.toList_data, Bool.eq_iff_iff, beq_iff_eq, decide_eq_true_eq]
  unfold nmT
  simp
theorem md_at {t : List UInt8} {k : Nat} (h1 : 1 ≤ k) (h2 : k ≤ 4) (h : nmL k = t) : mdN t = k ∧ mdB t = true := by
  obtain rfl | rfl | rfl | rfl : k = 1 ∨ k = 2 ∨ k = 3 ∨ k = 4 := by omega
  all_goals (subst h; decide)
theorem md_no {t : List UInt8} (h : ∀ k : Nat, 1 ≤ k → k < 5 → nmL k ≠ t) : mdN t = 0 ∧ mdB t = false := by
  have h1 := h 1 (by omega) (by omega)
  have h2 := h 2 (by omega) (by omega)
  have h3 := h 3 (by omega) (by omega)
  have h4 := h 4 (by omega) (by omega)
  have e : mdN t = 0 := by
    unfold mdN
    rw [if_neg (fun e => h1 (by rw [e]; decide)), if_neg (fun e => h2 (by rw [e]; decide)), if_neg (fun e => h3 (by rw [e]; decide)), if_neg (fun e => h4 (by rw [e]; decide))]
  refine ⟨e, ?_⟩
  unfold mdB
  rw [e]
  rfl
theorem rhMode_any (t : ByteArray) (w : World) :
    Calls Tryd.prog 15 #[.string t] w fun e w' => e = .returned (.tuple #[.int .i64 (mdN t.data.toList), .bool (mdB t.data.toList)]) ∧ w = w' := by
  have cN : ∀ m w1, _ := fun m w1 => rhName_any m w1
  go_enter Tryd.func15, Tryd.ntmps15
  go_wp2
  go_loopw [4] (fun s4 wr => ∃ k : Nat, s4 = .int .i64 k ∧ 1 ≤ k ∧ k ≤ 5 ∧ Hid (∀ j : Nat, 1 ≤ j → j < k → nmL j ≠ t.data.toList) ∧ w = wr) (fun s4 _ => 5 - (intOf s4).toNat)
  case atStart => exact ⟨1, rfl, by omega, by omega, hid (fun j h1 h2 => by omega), rfl⟩
  case round =>
    obtain ⟨k, rfl, h1, h2, HK, rfl⟩ := hrel
    by_cases h4 : k ≤ 4
    · have hi : (k : Int) ≤ 4 := by omega
      have cK := cN k w
      by_cases he : nmL k = t.data.toList
      · have hq : ((nmT k).toList == t.toList) = true := by rw [nm_same]; exact decide_eq_true he
        have HA := hid (md_at h1 h4 he)
        clear he HK
        generalize nmT (k : Int) = T at *
        go_wp2_with (first
          | (go_at_call 17; with_reducible refine cK.mono ?_; rintro e w1 ⟨rfl, rfl⟩))
        go_ret2
        exact ⟨by rw [HA.out.1, HA.out.2]; rfl, rfl⟩
      · have hq : ((nmT k).toList == t.toList) = false := by rw [nm_same]; exact decide_eq_false he
        have hq2 : ¬ (nmT k).toList = t.toList := fun e => by rw [e] at hq; simp at hq
        have HK' : Hid (∀ j : Nat, 1 ≤ j → j < k + 1 → nmL j ≠ t.data.toList) := hid (fun j a b => by
          by_cases e : j = k
          · subst e; exact he
          · exact HK.out j a (by omega))
        clear he HK
        generalize nmT (k : Int) = T at *
        go_wp2_with (first
          | (go_at_call 17; with_reducible refine cK.mono ?_; rintro e w1 ⟨rfl, rfl⟩))
        go_roundw
        case rel => exact ⟨k + 1, by go_num, by omega, by omega, HK', trivial⟩
        case measure => simp [intOf]; omega
    · obtain rfl : k = 5 := by omega
      have HA := hid (md_no HK.out)
      clear HK cN
      go_wp2
      go_ret2
      exact ⟨by rw [HA.out.1, HA.out.2]; rfl, rfl⟩
end Go.Proofs.YtfglbhdfdpnnfaaDoor
