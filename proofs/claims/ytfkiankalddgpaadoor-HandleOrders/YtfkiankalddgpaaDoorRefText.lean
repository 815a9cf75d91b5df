/- joistref07.Text and Digits by their contracts. -/
import Derived.Test.YtfkiankalddgpaaDoorRefNum
import Derived.Test.YtfkiankalddgpaaDoorRefHand
import Derived.LoopTactic
namespace Go.Proofs.YtfkiankalddgpaaDoor
set_option maxRecDepth 100000
open Go.RowKit
set_option linter.unusedVariables false
set_option linter.unusedSimpArgs false
set_option maxRecDepth 100000

theorem refText_any (I G : Int) (w : World) :
    Calls Tryd.prog 18 #[.agg #[.int .i64 I, .int .i64 G]] w fun e w' => e = .returned (.string ⟨(textR I G).toArray⟩) ∧ Below w.heap.size w w' := by
  have hb : Below w.heap.size w (w.alloc (.cells #[.int .i64 I, .int .i64 G] 23)) := (Below.refl _ w).alloc (Nat.le_refl _) _
  by_cases h : RightH I G
  · have hr := refHRight_any I G
    rw [rightHB_t h] at hr
    have h' : 0 ≤ I ∧ I < 32 ∧ 0 ≤ G ∧ G ≤ 65535 := h
    have l1 := numL_two (n := I.toNat) (by omega)
    have l2 := numL_five (n := G.toNat) (by omega)
    have n1 := fun w => number_any I.toNat w (by omega)
    have n2 := fun w => number_any G.toNat w (by omega)
    rw [show ((I.toNat : Nat) : Int) = I by omega] at n1
    rw [show ((G.toNat : Nat) : Int) = G by omega] at n2
    obtain ⟨p, hp⟩ : ∃ p : ByteArray, (⟨(numL I.toNat).toArray⟩ : ByteArray) = p := ⟨_, rfl⟩
    obtain ⟨q, hq⟩ : ∃ q : ByteArray, (⟨(numL G.toNat).toArray⟩ : ByteArray) = q := ⟨_, rfl⟩
    have sp : p.size ≤ 2 := by rw [← hp]; simpa [ByteArray.size] using l1
    have sq : q.size ≤ 5 := by rw [← hq]; simpa [ByteArray.size] using l2
    have e : (⟨(textR I G).toArray⟩ : ByteArray) = p ++ ⟨#[46]⟩ ++ q := numOf (by
      rw [textR_t h, numApp, numApp, ← hp, ← hq]
      simp [textH])
    rw [e]
    rw [hp] at n1
    rw [hq] at n2
    clear e hp hq l1 l2 h
    go_enter Tryd.func18, Tryd.ntmps18
    go_wp2_with (first | (go_at_call 14; with_reducible refine (hr _).mono ?_; rintro e w1 ⟨rfl, hb1⟩; obtain ⟨c0, c1⟩ := box_cells hb1))
    have m1 : ∀ k, Calls Tryd.prog 24 #[.int .i64 I] (w1.drewN k) fun e w' => e = .returned (.string p) ∧ ∃ m, w' = w1.drewN m := fun k => (n1 _).mono fun e w' ⟨h1, m, h2⟩ => ⟨h1, k + m, h2.trans (drewN_add _ _ _)⟩
    have m2 : ∀ k, Calls Tryd.prog 24 #[.int .i64 G] (w1.drewN k) fun e w' => e = .returned (.string q) ∧ ∃ m, w' = w1.drewN m := fun k => (n2 _).mono fun e w' ⟨h1, m, h2⟩ => ⟨h1, k + m, h2.trans (drewN_add _ _ _)⟩
    go_quiet (first | (go_at_call 24; with_reducible refine m1 _) | (go_at_call 24; with_reducible refine m2 _))
    go_wp2
    go_ret
    exact ⟨rfl, below_drewN (next hb hb1) _⟩
  · have hr := refHRight_any I G
    rw [rightHB_f h] at hr
    rw [textR_f h]
    go_enter Tryd.func18, Tryd.ntmps18
    go_wp2_with (first | (go_at_call 14; with_reducible refine (hr _).mono ?_; rintro e w1 ⟨rfl, hb1⟩))
    go_ret
    exact ⟨rfl, next hb hb1⟩

theorem get_num (s : ByteArray) (i : Nat) (h : i < s.size) : (s[i]'h).toNat = (s.data.toList.getD i 0).toNat := by
  have : s.data.toList.getD i 0 = s[i]'h := by
    rw [List.getD_eq_getElem?_getD, List.getElem?_eq_getElem (by simpa using h)]
    simp
    rfl
  rw [this]
theorem wrap_num (n : Nat) (h : n < 256) : wrap64 (n : Int) = n := by unfold wrap64; omega
theorem ret_num {a b : Int} (h : a = b) : Ending.returned (.int .i64 a) = .returned (.int .i64 b) := by rw [h]
theorem digits_any (x : ByteArray) (most : Nat) (w : World) (hm : most ≤ 5) (hx : x.size ≤ 9223372036854775807) :
    Calls Tryd.prog 22 #[.string x, .int .i64 most] w fun e w' => e = .returned (.int .i64 (digN x.data.toList most)) ∧ w = w' := by
  have hz : Hid (x.data.toList.length = x.size) := rfl
  by_cases hl : 1 ≤ x.size ∧ x.size ≤ most
  · have hl0 : ((x.size : Int) == 0) = false := beq_eq_false_iff_ne.2 (by omega)
    have hl1 : ¬ (most : Int) < x.size := by omega
    go_enter Tryd.func22, Tryd.ntmps22
    go_wp2
    go_loop [5, 6] (fun a b => ∃ i v : Nat, i ≤ x.size ∧ v ≤ 99999 ∧ a = .int .i64 v ∧ b = .int .i64 i ∧ Hid (DigSo x.data.toList i v)) (fun _ b => x.size - (intOf b).toNat)
    case atStart => exact ⟨0, 0, Nat.zero_le _, by omega, rfl, rfl, DigSo.zero _⟩
    case round =>
      obtain ⟨i, v, hi, hv, rfl, rfl, hq⟩ := hrel
      by_cases hlt : i < x.size
      · have hlt' : (i : Int) < x.size := by omega
        have e0 := get_num x i hlt
        have bz := (x.data.toList.getD i 0).toNat_lt
        have hbad : Hid (¬ Dig (x.data.toList.getD i 0) → digN x.data.toList most = -1) := fun h => digN_bad hlt h
        have hgood : Hid (Dig (x.data.toList.getD i 0) → DigSo x.data.toList (i + 1) (v * 10 + ((x.data.toList.getD i 0).toNat - 48))) := fun h => hq.next hlt h
        unfold Dig at hbad hgood
        obtain ⟨z, hz'⟩ : ∃ z, (x.data.toList.getD i 0).toNat = z := ⟨_, rfl⟩
        rw [hz'] at e0 bz hbad hgood
        have hwz := wrap_num z bz
        have hwz' : 48 ≤ z → wrap64 ((z : Int) - 48) = (z : Int) - 48 := fun h => by unfold wrap64; omega
        clear hz'
        go_wp2
        · go_ret
          exact ⟨ret_num (hbad (by omega)).symm, rfl⟩
        rotate_left
        · go_ret
          exact ⟨ret_num (hbad (by omega)).symm, rfl⟩
        have hg := hgood (by omega)
        refine ⟨⟨i + 1, v * 10 + (z - 48), by omega, hg.le (by omega), by rw [show ((v * 10 + (z - 48) : Nat) : Int) = (v : Int) * 10 + ((z : Int) - 48) by omega], by simp, hg⟩, ?_⟩
        simp only [intOf]
        omega
      · obtain rfl : i = x.size := by omega
        have hfin : Hid (digN x.data.toList most = v) := digN_all (l := x.data.toList) hq hl.1 hl.2
        go_wp2
        go_ret
        exact ⟨ret_num hfin.out.symm, rfl⟩
  · have h1 := digN_len (l := x.data.toList) hl
    rw [h1]
    by_cases h0 : x.size = 0
    · have hl0 : ((x.size : Int) == 0) = true := by rw [h0]; rfl
      clear h0
      go_enter Tryd.func22, Tryd.ntmps22
      go_wp2
      go_ret
      exact ⟨rfl, rfl⟩
    · have hl0 : ((x.size : Int) == 0) = false := beq_eq_false_iff_ne.2 (by omega)
      have hl2 : (most : Int) < x.size := by omega
      go_enter Tryd.func22, Tryd.ntmps22
      go_wp2
      go_ret
      exact ⟨rfl, rfl⟩
end Go.Proofs.YtfkiankalddgpaaDoor
