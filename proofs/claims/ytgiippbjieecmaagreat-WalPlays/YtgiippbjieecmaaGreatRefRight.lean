/- joistref04.Right by its contract. -/
import Derived.Test.YtgiippbjieecmaaGreatMgO
import Derived.BigQuiet
namespace Go.Proofs.YtgiippbjieecmaaGreat
set_option maxRecDepth 100000
open Go.RowKit
set_option linter.unusedVariables false

set_option maxRecDepth 100000 in
set_option maxHeartbeats 1000000 in
theorem refright_any (n : Int) (lo : Option Addr) (m lc : Nat) (D : Nat → ChD) (w : World) (h : Chs w lo m D) :
    Calls Tryz.prog 34 #[.int .i64 n, .slice lo m lc] w fun e w' => e = .returned (.bool (rightB n D m)) ∧ Below w.heap.size w w' := by
  have hm9 := h.fit
  go_enter Tryz.func34, Tryz.ntmps34
  go_wp2
  go_loopw [5] (fun t wr => ∃ k : Nat, k ≤ m ∧ t = .int .i64 k ∧ Hid (rightB n D k = true) ∧ Below w.heap.size w wr) (fun t _ => m - (intOf t).toNat)
  case atStart => exact ⟨0, Nat.zero_le _, rfl, hid rfl, Below.refl _ _⟩
  case round =>
    obtain ⟨k, hk, rfl, HK, hb⟩ := hrel
    by_cases hlt : k < m
    · obtain ⟨b1, o1, rfl, _, _⟩ := h.here (by omega)
      obtain ⟨c1, c2, ok⟩ := h.later hb hlt
      have hki : (k : Int) < (m : Int) := by omega
      have hfl := ok.bs.len
      have hbc := ok.bm
      have hrm := ok.bs.room
      have HT : Hid (fitsB n (D k).line (D k).bl = true → aheadV D k < (D k).line → rightB n D (k + 1) = true) := fun e e2 => by
        rw [rightB_succ, HK.out, rtD, hfl, e]; simpa using e2
      have HF : Hid (fitsB n (D k).line (D k).bl = false → rightB n D m = false) := fun e => rightB_false hlt (by rw [rtD, hfl, e]; rfl)
      have HG : Hid (¬ aheadV D k < (D k).line → rightB n D m = false) := fun e => rightB_false hlt (by rw [rtD]; simp [e])
      have HP : Hid (0 < k → ∃ V, aheadV D k = V ∧ wr.cell? ⟨b1, o1 + (k - 1) * 2, none⟩ = some (.int .i64 V)) := fun hk0 => by
        obtain ⟨j, rfl⟩ : ∃ j, k = j + 1 := ⟨k - 1, by omega⟩
        obtain ⟨d1, _, _⟩ := h.later hb (show j < m by omega)
        exact ⟨(D j).line, rfl, by simpa using d1⟩
      have HZ : Hid (k = 0 → aheadV D k = -1) := fun e => by subst e; rfl
      obtain ⟨A, hA⟩ : ∃ A, A = D k := ⟨_, rfl⟩
      rw [← hA] at c1 c2 HT HF HG hbc hrm
      clear ok hfl hA h
      generalize aheadV D k = V at *
      by_cases f1 : A.line < 0
      · have f1' : decide (A.line < 0) = true := by simpa using f1
        have hf : fitsB n A.line A.bl = false := by simp [fitsB]; omega
        go_wp2
        go_quiet (fail)
        go_wp2
        go_ret
        exact ⟨ret_bool (HF.out hf).symm, below_drewN hb _⟩
      · have f1' : decide (A.line < 0) = false := by simpa using f1
        by_cases f2 : A.line < n
        · have f2' : decide (n ≤ A.line) = false := by simpa using f2
          by_cases f3 : A.bl = 64
          · have f3' : ((A.bl : Int) != 64) = false := by simp; omega
            have hf : fitsB n A.line A.bl = true := fitsB_mk ⟨by omega, f2, f3⟩
            by_cases k0 : 0 < k
            · obtain ⟨V', hV, hcV⟩ := HP.out k0
              subst hV
              have k0' : decide ((0 : Int) < k) = true := by simpa using k0
              have k1 : ((k : Int) - 1) = ((k - 1 : Nat) : Int) := by omega
              have k2 : k - 1 < m := by omega
              by_cases hv : V < A.line
              · have hv' : decide (A.line ≤ V) = false := by simpa using hv
                go_wp2
                go_quiet (fail)
                go_wp2
                go_roundw
                case rel => exact ⟨k + 1, by omega, by go_num, hid (HT.out hf hv), below_drewN hb _⟩
                case measure => simp [intOf]; omega
              · have hv' : decide (A.line ≤ V) = true := by simpa using hv
                go_wp2
                go_quiet (fail)
                go_wp2
                go_ret
                exact ⟨ret_bool (HG.out hv).symm, below_drewN hb _⟩
            · have k0' : decide ((0 : Int) < k) = false := by simpa using k0
              go_wp2
              go_quiet (fail)
              go_wp2
              go_roundw
              case rel => exact ⟨k + 1, by omega, by go_num, hid (HT.out hf (by rw [HZ.out (by omega)]; omega)), below_drewN hb _⟩
              case measure => simp [intOf]; omega
          · have f3' : ((A.bl : Int) != 64) = true := by simp; omega
            have hf : fitsB n A.line A.bl = false := by simp [fitsB]; omega
            go_wp2
            go_quiet (fail)
            go_wp2
            go_ret
            exact ⟨ret_bool (HF.out hf).symm, below_drewN hb _⟩
        · have f2' : decide (n ≤ A.line) = true := by simpa using f2
          have hf : fitsB n A.line A.bl = false := by simp [fitsB]; omega
          go_wp2
          go_quiet (fail)
          go_wp2
          go_ret
          exact ⟨ret_bool (HF.out hf).symm, below_drewN hb _⟩
    · obtain rfl : k = m := by omega
      go_wp2
      go_ret
      exact ⟨ret_bool HK.out.symm, hb⟩
end Go.Proofs.YtgiippbjieecmaaGreat
