/- RefNames: these texts, one behind another. -/
import Derived.Test.YtpbljjbhfhfmgaaGreatDoorMxRefRuneA
import Derived.Test.YtpbljjbhfhfmgaaGreatDoorMxNBytes
/- joistref06.Right by its contract. -/
namespace Go.Proofs.YtpbljjbhfhfmgaaGreatDoor
set_option maxRecDepth 100000
open Go.RowKit
set_option linter.unusedVariables false
set_option linter.unusedSimpArgs false

def strLen (v : Value) : Nat := match v with | .string x => x.size | _ => 0
theorem ext_from (s : ByteArray) (a : Nat) : (s.extract a s.size).data.toList = s.data.toList.drop a := by
  rw [ByteArray.data_extract, Array.toList_extract, List.extract_eq_take_drop, List.take_of_length_le]
  rw [List.length_drop]
  exact Nat.le_refl _
theorem ext_to (s : ByteArray) (b : Nat) : (s.extract 0 b).data.toList = s.data.toList.take b := by
  rw [ByteArray.data_extract, Array.toList_extract, List.extract_eq_take_drop]
  rfl
theorem size_pos {x : ByteArray} (h : 0 < x.size) : x.data.toList ≠ [] := by
  intro e
  have := congrArg List.length e
  have h2 : x.data.toList.length = x.size := rfl
  rw [List.length_nil] at this
  omega

set_option maxRecDepth 100000
theorem refRight_any (s : ByteArray) (w : World) (hs : s.size ≤ 9223372036854775807) :
    Calls Tryz.prog 81 #[.string s] w fun e w' => e = .returned (.bool (nameB s.data.toList)) ∧ w = w' := by
  have hf : Hid (¬ (1 ≤ s.size ∧ s.size ≤ 16) → nameB s.data.toList = false) := fun h => nameB_f (fun k => h ⟨k.1, k.2.1⟩)
  go_enter Tryz.func81, Tryz.ntmps81
  go_wp2
  any_goals (go_ret; exact ⟨ret_bool (hf (by omega)).symm, rfl⟩)
  go_loop [0] (fun v => ∃ x : ByteArray, v = .string x ∧ Hid (x.size ≤ s.size ∧ (Named x.data.toList ↔ Named s.data.toList))) (fun v => strLen v)
  case atStart => exact ⟨s, rfl, ⟨Nat.le_refl _, Iff.rfl⟩⟩
  case round =>
    obtain ⟨x, rfl, hq⟩ := hrel
    by_cases hp : 0 < x.size
    · have hp' : 0 < (x.size : Int) := by omega
      obtain ⟨r, k, hd⟩ : ∃ r k, runeL x.data.toList = (r, k) := ⟨_, _, rfl⟩
      have hru := fun w => runeOf_any x w hp (by have := hq.1; omega)
      rw [hd] at hru
      simp only at hru
      have hne := size_pos hp
      have hns := named_step x.data.toList hne
      have hnr := nref_ok x.data.toList
      rw [hd] at hnr
      simp only at hnr
      have hkx : k ≤ x.size := by
        by_cases e : k = 0
        · omega
        · have := (enc_runeL x.data.toList hne (by rw [hd]; exact e)).2.1
          rw [hd] at this
          exact this
      have hbad : Hid ((k = 0 ∨ r ≤ 32 ∨ (127 ≤ r ∧ r ≤ 160) ∨ r = 65533) → nameB s.data.toList = false) := fun hb =>
        nameB_f (fun h => hnr.1 (hns.1 (hq.2.2 h.2.2)).1 hb)
      have hgood : Hid (¬ (k = 0 ∨ r ≤ 32 ∨ (127 ≤ r ∧ r ≤ 160) ∨ r = 65533) → (x.extract k x.size).size ≤ s.size ∧ (Named (x.extract k x.size).data.toList ↔ Named s.data.toList)) := fun hb => by
        have ho := hnr.2 hb
        obtain ⟨_, e2⟩ := decL_ok x.data.toList ho.2.2
        rw [e2, hd] at hns
        rw [e2, hd] at ho
        rw [ext_from]
        have hx := hq.1
        refine ⟨by rw [ByteArray.size_extract]; omega, fun h => hq.2.1 (hns.2 ⟨ho, h⟩), fun h => (hns.1 (hq.2.2 h)).2⟩
      clear hne hns hnr hd
      go_wp2_with (first | (go_at_call 106; with_reducible refine (hru _).mono ?_; rintro e w' ⟨rfl, rfl⟩))
      all_goals clear hru
      all_goals first
        | (go_ret; refine ⟨ret_bool (hbad ?_).symm, rfl⟩; (try simp only [beq_iff_eq, beq_eq_false_iff_ne, ne_eq] at *); omega)
        | (refine ⟨⟨_, rfl, hgood ?_⟩, ?_⟩
           · (try simp only [beq_iff_eq, beq_eq_false_iff_ne, ne_eq] at *); omega
           · show (x.extract k x.size).size < x.size
             rw [ByteArray.size_extract]; omega)
    · have hp' : ¬ 0 < (x.size : Int) := by omega
      go_wp2
      go_ret
      have hl : x.data.toList = [] := List.eq_nil_of_length_eq_zero (show x.size = 0 by omega)
      have hn : Named s.data.toList := hq.2.1 (by rw [hl]; exact .nil)
      refine ⟨ret_bool (nameB_t ⟨?_, ?_, hn⟩).symm, rfl⟩
      · show 1 ≤ s.size; omega
      · show s.size ≤ 16; omega
end Go.Proofs.YtpbljjbhfhfmgaaGreatDoor
