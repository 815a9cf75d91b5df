/- TabC · RefTabB: these texts, one behind another. -/
import Derived.Test.YtpbljjbhfhfmgaaGreatDoorMxTabB
import Derived.Lib.Walk
import Derived.Test.YtpbljjbhfhfmgaaGreatDoorMxRefTabA
/- table.Next; slices.Reverse; table.Chain by their contracts. -/
namespace Go.Proofs.YtpbljjbhfhfmgaaGreatDoor
set_option maxRecDepth 100000
open Go.RowKit
set_option linter.unusedVariables false
set_option linter.unusedSimpArgs false
set_option maxRecDepth 100000

theorem Off.kb {w w1 w2 : World} {kb : Nat} (h : Below w.heap.size w w1) (ho : Off (fun j => j = kb) w1 w2) (hk : w.heap.size ≤ kb) : Below w.heap.size w w2 :=
  h.trans (ho.below (B := w.heap.size) (fun j hj => by omega) h.size)
/-- A row of which the outer k are turned round. -/
def rvk (zs : List Int) (k : Nat) : List Int := (List.range zs.length).map fun i => if i < k ∨ zs.length - k ≤ i then zs.getD (zs.length - 1 - i) 0 else zs.getD i 0
theorem rvk_length (zs : List Int) (k : Nat) : (rvk zs k).length = zs.length := by simp [rvk]
theorem rvk_at (zs : List Int) (k : Nat) {i : Nat} (h : i < zs.length) : (rvk zs k)[i]? = some (if i < k ∨ zs.length - k ≤ i then zs.getD (zs.length - 1 - i) 0 else zs.getD i 0) := by simp [rvk, h]
theorem rvk_zero (zs : List Int) : rvk zs 0 = zs := by
  apply List.ext_getElem?; intro i
  by_cases h : i < zs.length
  · rw [rvk_at zs 0 h, if_neg (by omega)]; simp [List.getD, List.getElem?_eq_getElem h]
  · rw [List.getElem?_eq_none (by rw [rvk_length]; omega), List.getElem?_eq_none (by omega)]
theorem rvk_get (zs : List Int) (k : Nat) {i : Nat} (h : i < zs.length) (h1 : k ≤ i) (h2 : i < zs.length - k) : (rvk zs k).getD i 0 = zs.getD i 0 := by
  rw [List.getD, rvk_at zs k h, if_neg (by omega)]; rfl
theorem rvk_step (zs : List Int) (k J : Nat) (h : k + J + 1 = zs.length) (hlt : k < J) : ((rvk zs k).set k (zs.getD J 0)).set J (zs.getD k 0) = rvk zs (k + 1) := by
  apply List.ext_getElem?; intro i
  by_cases hi : i < zs.length
  · rw [rvk_at zs _ hi, List.getElem?_set, List.getElem?_set]
    simp only [List.length_set, rvk_length]
    by_cases e1 : J = i
    · rw [if_pos e1, if_pos (by omega), if_pos (by omega), show zs.length - 1 - i = k by omega]
    · rw [if_neg e1]
      by_cases e2 : k = i
      · rw [if_pos e2, if_pos (by omega), if_pos (by omega), show zs.length - 1 - i = J by omega]
      · rw [if_neg e2, rvk_at zs _ hi]
        by_cases e3 : i < k ∨ zs.length - k ≤ i
        · rw [if_pos e3, if_pos (by omega)]
        · rw [if_neg e3, if_neg (by omega)]
  · rw [List.getElem?_eq_none (by simp [rvk_length]; omega), List.getElem?_eq_none (by rw [rvk_length]; omega)]
theorem rvk_full (zs : List Int) (k : Nat) (h : zs.length ≤ 2 * k + 1) : rvk zs k = zs.reverse := by
  apply List.ext_getElem?; intro i
  by_cases hi : i < zs.length
  · rw [rvk_at zs _ hi, List.getElem?_reverse hi]
    have hg : zs[zs.length - 1 - i]? = some (zs.getD (zs.length - 1 - i) 0) := by simp [List.getD, List.getElem?_eq_getElem (show zs.length - 1 - i < zs.length by omega)]
    rw [hg]
    by_cases e3 : i < k ∨ zs.length - k ≤ i
    · rw [if_pos e3]
    · rw [if_neg e3, show zs.length - 1 - i = i by omega]
  · rw [List.getElem?_eq_none (by rw [rvk_length]; omega), List.getElem?_eq_none (by simp; omega)]

/-- Numbers of a row. -/
def nI (l : List Nat) : List Int := l.map fun (j : Nat) => (j : Int)
theorem nI_length (l : List Nat) : (nI l).length = l.length := by simp [nI]
theorem nI_app (a b : List Nat) : nI (a ++ b) = nI a ++ nI b := by simp [nI]
theorem nI_rev (l : List Nat) : (nI l).reverse = nI l.reverse := by simp [nI]
end Go.Proofs.YtpbljjbhfhfmgaaGreatDoor
/- joistref08.right, Right, New, Find, Chain and Next by their contracts. -/
namespace Go.Proofs.YtpbljjbhfhfmgaaGreatDoor
set_option maxRecDepth 100000
open Go.RowKit
set_option linter.unusedVariables false
set_option linter.unusedSimpArgs false
set_option maxRecDepth 100000

theorem beq_false_nat (m : Nat) : (((m + 1 : Nat) : Int) == 0) = false := by simp; omega
theorem zero_lt_nat (m : Nat) : (0 : Int) < ((m + 1 : Nat) : Int) := by omega
theorem rmay_any (s : Slt) (w : World) :
    Calls Tryz.prog 80 #[.agg #[.int .i64 s.gen, .bool s.live, .bool s.two, .int .i64 s.pos, .int .i64 s.len]] w fun e w' => e = .returned (.bool (mayB s)) ∧ Below w.heap.size w w' := by
  obtain ⟨g, l, t, p, n⟩ := s
  cases l <;> cases t
  all_goals
    go_enter Tryz.func80, Tryz.ntmps80
    go_wp2
    all_goals (go_ret; refine ⟨ret_bool ?_, (Below.refl _ w).alloc (Nat.le_refl _) _⟩)
    all_goals (rw [Bool.eq_iff_iff]; simp only [mayB, MayS, decide_eq_true_eq, beq_iff_eq, Bool.false_eq_true, false_iff, true_and, false_and, or_false, false_or, and_false, Bool.true_eq_false]; try omega)
theorem rright_tb (ao : Option Addr) (n cap : Nat) (l : List Slt) (w : World) (h : Tb w ao n cap l) (hn : n ≤ 9223372036854775807) :
    Calls Tryz.prog 50 #[.slice ao n cap] w fun e w' => e = .returned (.bool (rightB l)) ∧ Below w.heap.size w w' := by
  have hl := h.len
  go_enter Tryz.func50, Tryz.ntmps50
  go_wp2
  go_loopw [3] (fun t wr => ∃ k : Nat, k ≤ n ∧ t = .int .i64 k ∧ Hid (∀ i, i < k → MayS (sg l i)) ∧ Below w.heap.size w wr) (fun t _ => n - (intOf t).toNat)
  case atStart => exact ⟨0, Nat.zero_le _, rfl, hid (fun i hi => by omega), Below.refl _ _⟩
  case round =>
    obtain ⟨k, hk, rfl, HK, hb⟩ := hrel
    by_cases hlt : k < n
    · obtain ⟨b, off, rfl, _, _⟩ := h.here (by omega)
      obtain ⟨c0, c1, c2, c3, c4⟩ := h.at hb hlt
      have hki : (k : Int) < (n : Int) := by omega
      have HT : Hid (MayS (sg l k) → ∀ i, i < k + 1 → MayS (sg l i)) := fun hm i hi => by
        by_cases e : i = k
        · rw [e]; exact hm
        · exact HK.out i (by omega)
      have HF : Hid (¬ MayS (sg l k) → false = rightB l) := fun hm => (rightB_f (fun hr => hm (hr.may (by omega)))).symm
      have cM := rmay_any (sg l k)
      generalize sg l k = s at *
      obtain ⟨g, lv, tw, p, ln⟩ := s
      simp only at c0 c1 c2 c3 c4 cM
      clear HK h
      by_cases hm : MayS ⟨g, lv, tw, p, ln⟩
      · rw [mayB_t hm] at cM
        go_wp2_with (go_at_call 80; with_reducible refine (cM _).mono ?_; rintro e w3 ⟨rfl, hb3⟩)
        go_roundw
        case rel => exact ⟨k + 1, by omega, by go_num, hid (HT.out hm), next hb hb3⟩
        case measure => simp [intOf]; omega
      · rw [mayB_f hm] at cM
        go_wp2_with (go_at_call 80; with_reducible refine (cM _).mono ?_; rintro e w3 ⟨rfl, hb3⟩)
        go_ret
        exact ⟨ret_bool (HF.out hm), next hb hb3⟩
    · obtain rfl : k = n := by omega
      have HR : Hid (rightB l = sizB (k : Int)) := hid (by
        rw [Bool.eq_iff_iff, sizB_iff]
        constructor
        · intro e
          have := (of_decide_eq_true e).1
          rwa [hl] at this
        · intro e
          exact rightB_t ⟨by rw [hl]; exact e, may_all HK.out hl.symm⟩)
      clear h HK
      by_cases k1 : 2 ≤ (k : Int)
      · by_cases k2 : (k : Int) ≤ 32
        · by_cases k3 : (k : Int) % 2 = 0
          · have HV := hid (sizB_t (n := (k : Int)) ⟨k1, k2, k3⟩)
            have k3' : ((k : Int) % 2 == 0) = true := by simpa using k3
            clear k3
            go_wp2
            go_ret
            exact ⟨ret_bool (by rw [HR.out, HV.out]), hb⟩
          · have HV := hid (sizB_f (n := (k : Int)) (fun e => k3 e.2.2))
            have k3' : ((k : Int) % 2 == 0) = false := by simpa using k3
            clear k3
            go_wp2
            go_ret
            exact ⟨ret_bool (by rw [HR.out, HV.out]), hb⟩
        · have HV := hid (sizB_f (n := (k : Int)) (fun e => k2 e.2.1))
          go_wp2
          go_ret
          exact ⟨ret_bool (by rw [HR.out, HV.out]), hb⟩
      · have HV := hid (sizB_f (n := (k : Int)) (fun e => k1 e.1))
        go_wp2
        go_ret
        exact ⟨ret_bool (by rw [HR.out, HV.out]), hb⟩
end Go.Proofs.YtpbljjbhfhfmgaaGreatDoor
