/- joistlaw04.Few by its contract. -/
import Derived.Test.YtgiippbjieecmaaGreatChg
namespace Go.Proofs.YtgiippbjieecmaaGreat
set_option maxRecDepth 100000
open Go.RowKit
set_option linter.unusedVariables false

def fewB (D : Nat → ChD) (m : Nat) : Bool := (List.range m).all (fun i => decide ((D i).bl ≤ 1024)) && decide (m ≤ 300)
theorem few_any (lo : Option Addr) (m lc : Nat) (D : Nat → ChD) (w : World) (h : Chs w lo m D) :
    Calls Tryz.prog 7 #[.slice lo m lc] w fun e w' => e = .returned (.bool (fewB D m)) ∧ w = w' := by
  have hm9 := h.fit
  go_enter Tryz.func7, Tryz.ntmps7
  go_wp2
  go_loop [3] (fun t => ∃ k : Nat, k ≤ m ∧ t = .int .i64 k ∧ Hid ((List.range k).all (fun i => decide ((D i).bl ≤ 1024)) = true)) (fun t => m - (RowKit.intOf t).toNat)
  case atStart => exact ⟨0, Nat.zero_le _, rfl, hid rfl⟩
  case round =>
    obtain ⟨k, hk, rfl, HK⟩ := hrel
    by_cases hlt : k < m
    · obtain ⟨b1, o1, rfl, _, hc⟩ := h.here (by omega)
      obtain ⟨c1, c2⟩ := hc k hlt
      have hki : (k : Int) < (m : Int) := by omega
      have hbm := (h.ok k hlt).bm
      have hbr := (h.ok k hlt).bs.room
      have HT : Hid ((D k).bl ≤ 1024 → (List.range (k + 1)).all (fun i => decide ((D i).bl ≤ 1024)) = true) := fun e => by rw [List.range_succ, List.all_append, HK.out]; simpa using e
      have HF : Hid (¬ (D k).bl ≤ 1024 → fewB D m = false) := fun e => by
        cases q : fewB D m with
        | false => rfl
        | true =>
          unfold fewB at q
          simp only [Bool.and_eq_true, List.all_eq_true, List.mem_range, decide_eq_true_eq] at q
          exact absurd (q.1 k hlt) e
      generalize (D k).line = X at *
      generalize (D k).ba = X2 at *
      generalize (D k).bl = L at *
      generalize (D k).bc = C at *
      clear hc h
      by_cases hl : L ≤ 1024
      · have hl' : ¬ ((1024 : Int) < L) := by omega
        go_wp2
        go_round
        case rel => exact ⟨k + 1, by omega, by go_num, hid (HT.out hl)⟩
        case measure => simp [RowKit.intOf]; omega
      · have hl' : (1024 : Int) < L := by omega
        go_wp2
        go_ret
        exact ⟨ret_bool (HF.out hl).symm, rfl⟩
    · obtain rfl : k = m := by omega
      go_wp2
      go_ret
      refine ⟨ret_bool ?_, rfl⟩
      unfold fewB
      rw [HK.out, Bool.true_and, Bool.eq_iff_iff, decide_eq_true_eq, decide_eq_true_eq]
      omega
end Go.Proofs.YtgiippbjieecmaaGreat
