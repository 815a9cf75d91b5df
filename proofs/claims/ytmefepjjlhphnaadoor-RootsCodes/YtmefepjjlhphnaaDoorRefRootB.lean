/- joistref09.Right, asks, Get, Set and Drop by their contracts. -/
import Derived.Test.YtmefepjjlhphnaaDoorRefRootA
namespace Go.Proofs.YtmefepjjlhphnaaDoor
set_option maxRecDepth 100000
open Go.RowKit
set_option linter.unusedVariables false
set_option linter.unusedSimpArgs false
set_option maxRecDepth 100000

set_option maxHeartbeats 2000000 in
theorem rrightR_rs (ao : Option Addr) (n cap : Nat) (l : List Rt) (w : World) (h : Rs w ao n cap l) (hn : n ≤ 9223372036854775806) :
    Calls Tryd.prog 22 #[.slice ao n cap] w fun e w' => e = .returned (.bool (rightRB l)) ∧ Below w.heap.size w w' := by
  have hl := h.len
  have bX : Below w.heap.size w (w.alloc (.cells #[.int .i64 0, .int .i64 0] 41)) := (Below.refl _ w).alloc (Nat.le_refl _) _
  have xX := bxR_new w 0 0
  go_enter Tryd.func22, Tryd.ntmps22
  go_wp2
  go_loopw [4] (fun t wr => ∃ k : Nat, k ≤ n ∧ t = .int .i64 k ∧ Hid (∀ j, j < k → OkAt l j) ∧ Below w.heap.size w wr ∧ BxR wr w.heap.size 0 0) (fun t _ => n - (intOf t).toNat)
  case atStart => exact ⟨0, Nat.zero_le _, rfl, hid (fun i hi => by omega), bX, xX⟩
  case round =>
    obtain ⟨k, hk, rfl, HK, hb, hx⟩ := hrel
    clear bX xX
    by_cases hlt : k < n
    · obtain ⟨b, off, rfl, _, _⟩ := h.here (by omega)
      obtain ⟨c0, c1, c2⟩ := h.at hb hlt
      obtain ⟨x0, x1, _, _⟩ := hx.cells
      have hroom := h.room
      have hki : (k : Int) < (n : Int) := by omega
      have hkc : k ≤ cap := by omega
      have HT : Hid (OkAt l k → ∀ i, i < k + 1 → OkAt l i) := fun hm i hi => by
        by_cases e : i = k
        · rw [e]; exact hm
        · exact HK.out i (by omega)
      have HF : Hid (¬ OkAt l k → false = rightRB l) := fun hm => (rightRB_f (fun hr => hm (hr.ok (by omega)))).symm
      have cA : ∀ w2, Below w.heap.size w w2 → Calls Tryd.prog 43 #[.slice (some ⟨b, off, none⟩) k cap, .string (ra l k).nm] w2 fun e w' => e = .returned (.int .i64 (plI (l.take k) (ra l k).nm)) ∧ w2 = w' := fun w2 hb2 => at_rs _ k cap (l.take k) _ w2 ((h.below hb2).short k (by omega)) (by omega)
      have HO : Hid (OkAt l k ↔ MayR (ra l k) ∧ ((ra l k).nm = emp ∨ plB (l.take k) (ra l k).nm = false)) := hid Iff.rfl
      have Hat : Hid (∀ wr, Below w.heap.size w wr → R3 wr b (off + k * 3) (ra l k)) := fun wr hb => h.at hb hlt
      have hP : (∃ p : Nat, plI (l.take k) (ra l k).nm = p ∧ plB (l.take k) (ra l k).nm = true) ∨ (plI (l.take k) (ra l k).nm = -1 ∧ plB (l.take k) (ra l k).nm = false) := by
        cases e : plO (l.take k) (ra l k).nm with
        | some p => exact Or.inl ⟨p, plI_t e, (pl_t e).2⟩
        | none => exact Or.inr ⟨plI_f e, (pl_f e).2⟩
      have hrg : (ra l k).nm.size ≤ 9223372036854775807 := h.rgs hlt
      generalize plB (l.take k) (ra l k).nm = pb at *
      generalize plI (l.take k) (ra l k).nm = pn at *
      generalize ra l k = r at *
      obtain ⟨nm, ix, gn⟩ := r
      simp only at c0 c1 c2 cA HO hrg
      have Hx := hid hx
      clear HK h hx
      by_cases he : nm = emp
      · have hq := emp_e he
        by_cases h0 : ix = 0
        · subst h0
          by_cases h1 : gn = 0
          · subst h1
            have HT' := hid (HT.out (HO.out.2 ⟨Or.inl ⟨he, rfl, rfl⟩, Or.inl he⟩))
            clear HT HF HO he cA hP
            go_wp2
            go_quiet (fail)
            go_wp2
            go_roundw
            case rel => exact ⟨k + 1, by omega, by go_num, HT', below_drewN hb _, Hx.out.kept (below_drewN (Below.refl _ _) _)⟩
            case measure => simp [intOf]; omega
          · have HF' := hid (HF.out (fun e => h1 (congrArg Rt.gn ((HO.out.1 e).1.zero he))))
            have h1' : (gn == 0) = false := by simpa using h1
            clear HT HF HO he cA hP
            go_wp2
            go_quiet (fail)
            go_wp2
            go_ret
            exact ⟨ret_bool HF'.out, below_drewN hb _⟩
        · have HF' := hid (HF.out (fun e => h0 (congrArg Rt.ix ((HO.out.1 e).1.zero he))))
          have h0' : (ix == 0) = false := by simpa using h0
          clear HT HF HO he cA hP
          go_wp2
          go_quiet (fail)
          go_wp2
          go_ret
          exact ⟨ret_bool HF'.out, below_drewN hb _⟩
      · have hq := emp_n he
        have hq2 := emp_l he
        have cN := fun w => refRight_any nm w hrg
        have cH := refHRight_any ix gn
        have HM : Hid (MayR ⟨nm, ix, gn⟩ ↔ nameB nm.data.toList = true ∧ RightH ix gn) := hid ⟨fun h => h.name he, fun h => Or.inr h⟩
        cases hnb : nameB nm.data.toList with
        | false =>
          rw [hnb] at cN
          have HF' := hid (HF.out (fun e => by have := (HM.out.1 (HO.out.1 e).1).1; rw [hnb] at this; cases this))
          generalize rightHB ix gn = hh at *
          clear HT HF HO HM he hnb hP
          go_wp2_with (first
            | (go_at_call 41; with_reducible refine (cN _).mono ?_; rintro e w2 ⟨rfl, rfl⟩)
            | (go_at_call 42; with_reducible refine (cH _).mono ?_; rintro e w3 ⟨rfl, hb3⟩; obtain ⟨d0, d1, d2⟩ := Hat.out w3 (next hb hb3)))
          go_quiet (fail)
          go_wp2
          go_ret
          exact ⟨ret_bool HF'.out, below_drewN (next hb hb3) _⟩
        | true =>
          rw [hnb] at cN
          by_cases hh : RightH ix gn
          · rw [rightHB_t hh] at cH
            rcases hP with ⟨p, rfl, rfl⟩ | ⟨rfl, rfl⟩
            · have HF' := hid (HF.out (fun e => by rcases (HO.out.1 e).2 with h1 | h1; exact he h1; cases h1))
              have hp0 : (0 : Int) ≤ (p : Int) := by omega
              clear HT HF HO HM he hnb hh
              go_wp2_with (first
                | (go_at_call 41; with_reducible refine (cN _).mono ?_; rintro e w2 ⟨rfl, rfl⟩)
                | (go_at_call 42; with_reducible refine (cH _).mono ?_; rintro e w3 ⟨rfl, hb3⟩; have b3 := next hb hb3; obtain ⟨d0, d1, d2⟩ := Hat.out w3 b3))
              go_quiet ((go_at_call 43; refine quiet_same (cA _ (below_drewN b3 _))))
              go_wp2
              go_ret
              exact ⟨ret_bool HF'.out, below_drewN b3 _⟩
            · have HT' := hid (HT.out (HO.out.2 ⟨HM.out.2 ⟨hnb, hh⟩, Or.inr rfl⟩))
              clear HT HF HO HM he hnb hh
              go_wp2_with (first
                | (go_at_call 41; with_reducible refine (cN _).mono ?_; rintro e w2 ⟨rfl, rfl⟩)
                | (go_at_call 42; with_reducible refine (cH _).mono ?_; rintro e w3 ⟨rfl, hb3⟩; have b3 := next hb hb3; obtain ⟨d0, d1, d2⟩ := Hat.out w3 b3))
              go_quiet ((go_at_call 43; refine quiet_same (cA _ (below_drewN b3 _))))
              go_wp2
              go_roundw
              case rel => exact ⟨k + 1, by omega, by go_num, HT', below_drewN b3 _, (Hx.out.kept hb3).kept (below_drewN (Below.refl _ _) _)⟩
              case measure => simp [intOf]; omega
          · rw [rightHB_f hh] at cH
            have HF' := hid (HF.out (fun e => hh (HM.out.1 (HO.out.1 e).1).2))
            clear HT HF HO HM he hnb hP hh
            go_wp2_with (first
              | (go_at_call 41; with_reducible refine (cN _).mono ?_; rintro e w2 ⟨rfl, rfl⟩)
              | (go_at_call 42; with_reducible refine (cH _).mono ?_; rintro e w3 ⟨rfl, hb3⟩; obtain ⟨d0, d1, d2⟩ := Hat.out w3 (next hb hb3)))
            go_quiet (fail)
            go_wp2
            go_ret
            exact ⟨ret_bool HF'.out, below_drewN (next hb hb3) _⟩
    · obtain rfl : k = n := by omega
      have hki : ¬ ((k : Int) < (k : Int)) := by omega
      have HS : Hid (rightRB l = sizRB k) := hid (by
        rw [Bool.eq_iff_iff, sizRB_iff, rightRB, decide_eq_true_eq]
        exact ⟨fun h2 => by have := h2.siz; rwa [hl] at this, fun h2 => rightR_of (by rw [hl]; exact h2) (fun j hj => HK.out j (by omega))⟩)
      clear HK h hx
      go_wp2
      all_goals (go_ret; refine ⟨ret_bool ?_, hb⟩; rw [HS.out, Bool.eq_iff_iff, sizRB_iff]; simp [SizR]; omega)
end Go.Proofs.YtmefepjjlhphnaaDoor
