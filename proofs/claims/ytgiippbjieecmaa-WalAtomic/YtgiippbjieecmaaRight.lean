/- lines.Right by its contract. -/
import Derived.Test.YtgiippbjieecmaaApply
namespace Go.Proofs.Ytgiippbjieecmaa
set_option maxRecDepth 100000
open Go.RowKit
set_option linter.unusedVariables false

def aheadV (D : Nat → ChD) : Nat → Int
  | 0 => -1
  | k + 1 => (D k).line
/-- Is change k right, behind the ones ahead of it? -/
def rtD (n : Int) (D : Nat → ChD) (k : Nat) : Bool := fitsB n (D k).line (D k).bz.length && decide (aheadV D k < (D k).line)
def rightB (n : Int) (D : Nat → ChD) (m : Nat) : Bool := (List.range m).all (rtD n D)
theorem rightB_succ (n : Int) (D : Nat → ChD) (k : Nat) : rightB n D (k + 1) = (rightB n D k && rtD n D k) := by simp [rightB, List.range_succ]
theorem rightB_false {n : Int} {D : Nat → ChD} {k m : Nat} (hk : k < m) (h : rtD n D k = false) : rightB n D m = false := by
  cases e : rightB n D m with
  | false => rfl
  | true =>
    unfold rightB at e
    rw [List.all_eq_true] at e
    rw [e k (by simpa using hk)] at h
    cases h

set_option maxRecDepth 100000 in
theorem right_any (n : Int) (lo : Option Addr) (m lc : Nat) (D : Nat → ChD) (w : World) (h : Chs w lo m D) :
    Calls Try.prog 32 #[.int .i64 n, .slice lo m lc] w fun e w' => e = .returned (.bool (rightB n D m)) ∧ Below w.heap.size w w' := by
  have hm9 := h.fit
  go_enter Try.func32, Try.ntmps32
  go_wp2
  go_loopw [5, 10] (fun q t wr => ∃ k : Nat, k ≤ m ∧ t = .int .i64 k ∧ q = .int .i64 (aheadV D k) ∧ Hid (rightB n D k = true) ∧ Below w.heap.size w wr) (fun _ t _ => m - (intOf t).toNat)
  case atStart => exact ⟨0, Nat.zero_le _, rfl, rfl, hid rfl, Below.refl _ _⟩
  case round =>
    obtain ⟨k, hk, rfl, rfl, HK, hb⟩ := hrel
    by_cases hlt : k < m
    · obtain ⟨b1, o1, rfl, _, _⟩ := h.here (by omega)
      obtain ⟨c1, c2, ok⟩ := h.later hb hlt
      have hki : (k : Int) < (m : Int) := by omega
      have hfl := ok.bs.len
      have HT : Hid (fitsB n (D k).line (D k).bl = true → aheadV D k < (D k).line → rightB n D (k + 1) = true) := fun e e2 => by
        rw [rightB_succ, HK.out, rtD, hfl, e]; simpa using e2
      have HF : Hid (fitsB n (D k).line (D k).bl = false → rightB n D m = false) := fun e => rightB_false hlt (by rw [rtD, hfl, e]; rfl)
      have HG : Hid (¬ aheadV D k < (D k).line → rightB n D m = false) := fun e => rightB_false hlt (by rw [rtD]; simp [e])
      have HV : Hid (aheadV D (k + 1) = (D k).line) := hid rfl
      generalize aheadV D k = V at *
      obtain ⟨A, hA⟩ : ∃ A, A = D k := ⟨_, rfl⟩
      rw [← hA] at c1 c2 HT HF HG HV
      clear ok hfl hA h
      have hbA : Below w.heap.size w (wr.alloc (.cells #[.int .i64 A.line, .slice A.ba A.bl A.bc] 65)) := hb.alloc hb.size _
      have cA : (wr.alloc (.cells #[.int .i64 A.line, .slice A.ba A.bl A.bc] 65)).cell? ⟨wr.heap.size, 0, none⟩ = some (.int .i64 A.line) := by simp
      have lA : wr.heap.size < (wr.alloc (.cells #[.int .i64 A.line, .slice A.ba A.bl A.bc] 65)).heap.size := by simp
      by_cases hf : fitsB n A.line A.bl = true
      · by_cases hv : V < A.line
        · have hv' : ¬ A.line ≤ V := by omega
          go_wp2_with (first
            | (go_at_call 56; with_reducible refine (lfits_any n A.line A.ba A.bl A.bc _).mono ?_; rintro e w' ⟨rfl, hb2⟩; rw [hf]; have hb3 := next hbA hb2; have c3 := (hb2.cell (p := ⟨wr.heap.size, 0, none⟩) lA).trans cA))
          go_roundw
          case rel => exact ⟨k + 1, by omega, by go_num, by rw [HV.out], hid (HT.out hf hv), hb3⟩
          case measure => simp [intOf]; omega
        · have hv' : A.line ≤ V := by omega
          go_wp2_with (first
            | (go_at_call 56; with_reducible refine (lfits_any n A.line A.ba A.bl A.bc _).mono ?_; rintro e w' ⟨rfl, hb2⟩; rw [hf]; have hb3 := next hbA hb2; have c3 := (hb2.cell (p := ⟨wr.heap.size, 0, none⟩) lA).trans cA))
          go_ret
          exact ⟨ret_bool (HG.out hv).symm, hb3⟩
      · have hf' : fitsB n A.line A.bl = false := by simpa using hf
        go_wp2_with (first
          | (go_at_call 56; with_reducible refine (lfits_any n A.line A.ba A.bl A.bc _).mono ?_; rintro e w' ⟨rfl, hb2⟩; rw [hf']; have hb3 := next hbA hb2))
        go_ret
        exact ⟨ret_bool (HF.out hf').symm, hb3⟩
    · obtain rfl : k = m := by omega
      go_wp2
      go_ret
      exact ⟨ret_bool HK.out.symm, hb⟩
end Go.Proofs.Ytgiippbjieecmaa
