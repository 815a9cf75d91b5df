/- joistref06.Fold by its contract. -/
import Derived.Test.YtdlljmkmegineaaDoorRefNames
namespace Go.Proofs.YtdlljmkmegineaaDoor
open Go.RowKit
set_option linter.unusedVariables false
set_option linter.unusedSimpArgs false

theorem app_list' (s t : ByteArray) : (s ++ t).data.toList = s.data.toList ++ t.data.toList := by
  rw [ByteArray.data_append, Array.toList_append]
theorem sl_one (w : World) (z : Int) : Sl .u8 (w.alloc (.cells #[.int .u8 z] 5)) (some ⟨w.heap.size, 0, none⟩) 1 1 [z] := by
  refine ⟨rfl, Nat.le_refl _, (by intro h; cases h), fun _ => ⟨w.heap.size, 0, rfl, by simp, fun i hi => ?_⟩⟩
  obtain rfl : i = 0 := by omega
  simp
theorem of_size {x y : ByteArray} (h : x.data.toList = y.data.toList) : x = y := by
  cases x with | mk a => cases y with | mk b => exact congrArg ByteArray.mk (Array.ext' h)

set_option maxRecDepth 100000
theorem refFold_any (s : ByteArray) (w : World) (hs : s.size ≤ 1024) :
    Calls Tryd.prog 12 #[.string s] w fun e w' => e = .returned (.string ⟨(fold s.data.toList).toArray⟩) ∧ Below w.heap.size w w' := by
  go_enter Tryd.func12, Tryd.ntmps12
  go_wp2
  go_loopw [0, 3] (fun v y wr => ∃ x o : ByteArray, v = .string x ∧ y = .string o ∧ x.size ≤ 1024 ∧ o.size ≤ 4096 ∧ Hid (o.data.toList ++ fold x.data.toList = fold s.data.toList ∧ x.size ≤ s.size ∧ o.size ≤ 4 * (s.size - x.size)) ∧ Below w.heap.size w wr) (fun v _ _ => strLen v)
  case atStart => exact ⟨s, ⟨#[]⟩, rfl, rfl, hs, by decide, ⟨rfl, Nat.le_refl _, Nat.zero_le _⟩, Below.refl _ _⟩
  case round =>
    obtain ⟨x, o, rfl, rfl, hx1, ho1, hq, hbw⟩ := hrel
    by_cases hp : 0 < x.size
    · have hp' : 0 < (x.size : Int) := by omega
      obtain ⟨r, k, hd⟩ : ∃ r k, runeL x.data.toList = (r, k) := ⟨_, _, rfl⟩
      have hru := fun w => runeOf_any x w hp (by omega)
      rw [hd] at hru
      simp only at hru
      have hne := size_pos hp
      obtain ⟨a, t, hat⟩ : ∃ a t, x.data.toList = a :: t := by
        cases e : x.data.toList with
        | nil => exact absurd e hne
        | cons a t => exact ⟨a, t, rfl⟩
      have e0 := get_at' x 0 hp
      rw [hat] at e0
      have e0' : (x[0]'hp).toNat = a.toNat := e0
      obtain ⟨z, hz⟩ : ∃ z, a.toNat = z := ⟨_, rfl⟩
      rw [hz] at e0'
      have hz255 : z < 256 := by rw [← hz]; exact a.toNat_lt
      clear e0
      have hkx : k ≤ x.size := by
        by_cases e : k = 0
        · omega
        · have := (enc_runeL x.data.toList hne (by rw [hd]; exact e)).2.1
          rw [hd] at this
          exact this
      -- one step: 'p' is written, k bytes are passed
      have fin : ∀ (k : Nat) (p : ByteArray), Hid (1 ≤ k → k ≤ x.size → p.size ≤ 4 * k → fold x.data.toList = p.data.toList ++ fold (x.data.toList.drop k) →
          (x.extract k x.size).size ≤ 1024 ∧ (o ++ p).size ≤ 4096 ∧ Hid ((o ++ p).data.toList ++ fold (x.extract k x.size).data.toList = fold s.data.toList ∧ (x.extract k x.size).size ≤ s.size ∧ (o ++ p).size ≤ 4 * (s.size - (x.extract k x.size).size)) ∧ strLen (.string (x.extract k x.size)) < strLen (.string x)) := fun k p k1 k2 k3 hf => by
        obtain ⟨q1, q2, q3⟩ := hq
        have z1 : (x.extract k x.size).size = x.size - k := by rw [ByteArray.size_extract]; omega
        have z2 : (o ++ p).size = o.size + p.size := ByteArray.size_append
        refine ⟨by omega, by omega, ⟨?_, by omega, by omega⟩, ?_⟩
        · rw [app_list', ext_from, List.append_assoc, ← hf]; exact q1
        · show (x.extract k x.size).size < x.size
          omega
      by_cases hk : k = 0
      · subst hk
        have hf := fold_bad x.data.toList hne (by rw [hd])
        have f1 := fin 1 ⟨#[239, 191, 189]⟩ (Nat.le_refl _) hp (by decide) hf
        have f1' := hid f1
        clear fin hf f1 hne hat hz hd
        go_wp2_with (first | (go_at_call 21; with_reducible refine (hru _).mono ?_; rintro e w' ⟨rfl, rfl⟩))
        exact ⟨⟨_, _, rfl, rfl, f1'.1, f1'.2.1, f1'.2.2.1, hbw⟩, f1'.2.2.2⟩
      · have hk' : ((k : Int) == 0) = false := beq_eq_false_iff_ne.2 (by omega)
        by_cases hl : 97 ≤ z ∧ z ≤ 122
        · have hl1 : 97 ≤ (z : Int) := by omega
          have hl2 : (z : Int) ≤ 122 := by omega
          obtain ⟨s1, s2⟩ := fold_small a t (by omega)
          rw [← hat, hd] at s1
          obtain rfl : k = 1 := s1
          have htx := (sl_one wr ((z : Int) - 32)).text (P := Tryd.prog) Tryd.underlying25 Tryd.underlying5 Tryd.underlying9
          have f1 := fin 1 (strOfNums [(z : Int) - 32]) (Nat.le_refl _) hp (by rw [strOfNums_size]; simp) (by
            rw [hat, s2, hz]
            have e : (strOfNums [(z : Int) - 32]).data.toList = [(z - 32).toUInt8] := by
              rw [strOfNums_data]
              have e2 : ((z : Int) - 32).toNat = z - 32 := by omega
              simp [e2]
            rw [e]
            rfl)
          have f1' := hid f1
          have hso : (strOfNums [(z : Int) - 32]).size = 1 := by rw [strOfNums_size]; rfl
          have hbw' : Below w.heap.size w (wr.alloc (.cells #[.int .u8 ((z : Int) - 32)] 5)) := hbw.alloc hbw.size _
          clear fin f1 s2 hne hat hz hd
          go_wp2_with (first | (go_at_call 21; with_reducible refine (hru _).mono ?_; rintro e w' ⟨rfl, rfl⟩))
          exact ⟨⟨_, _, rfl, rfl, f1'.1, f1'.2.1, f1'.2.2.1, hbw'⟩, f1'.2.2.2⟩
        · have hf := fold_else a t (by omega) (by rw [← hat, hd]; exact hk)
          rw [← hat, hd] at hf
          have hps : (x.extract 0 k).size ≤ 4 * k := by rw [ByteArray.size_extract]; omega
          have f1 := fin k (x.extract 0 k) (by omega) hkx hps (by rw [ext_to]; exact hf)
          have f1' := hid f1
          clear fin f1 hf hne hat hz hd hps
          go_wp2_with (first | (go_at_call 21; with_reducible refine (hru _).mono ?_; rintro e w' ⟨rfl, rfl⟩))
          all_goals exact ⟨⟨_, _, rfl, rfl, f1'.1, f1'.2.1, f1'.2.2.1, hbw⟩, f1'.2.2.2⟩
    · have hp' : ¬ 0 < (x.size : Int) := by omega
      go_wp2
      go_ret
      have hl : x.data.toList = [] := List.eq_nil_of_length_eq_zero (show x.size = 0 by omega)
      have ho : o = ⟨(fold s.data.toList).toArray⟩ := of_size (by
        have h := hq.1
        rw [hl, fold_nil, List.append_nil] at h
        rw [h])
      rw [← ho]
      exact ⟨rfl, hbw⟩
end Go.Proofs.YtdlljmkmegineaaDoor
