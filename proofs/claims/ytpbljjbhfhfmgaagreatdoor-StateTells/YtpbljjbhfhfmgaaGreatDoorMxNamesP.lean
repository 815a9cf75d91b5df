/- NamesP: these texts, one behind another. -/
import Derived.Test.YtpbljjbhfhfmgaaGreatDoorMxInfo
import Derived.Test.YtpbljjbhfhfmgaaGreatDoorMxNam
import Derived.Laws.RangeAny
import Derived.LoopTactic
/- names.stands, great and Right by their contracts. -/
namespace Go.Proofs.YtpbljjbhfhfmgaaGreatDoor
set_option maxRecDepth 100000
open Go.RowKit

set_option maxRecDepth 100000
theorem stands_any (r : Nat) (w : World) (hr : r ≤ 1114111) :
    Calls Tryz.prog 118 #[.int .i32 r] w fun e w' => e = .returned (.bool (okB r)) ∧ w = w' := by
  go_enter Tryz.func118, Tryz.ntmps118
  go_wp2
  all_goals (go_ret; refine ⟨ret_bool ?_, rfl⟩)
  all_goals (rw [Bool.eq_iff_iff, okB_iff]; simp only [Bool.and_eq_true, Bool.or_eq_true, decide_eq_true_eq, bne_iff_ne, ne_eq, Bool.false_eq_true, false_iff]; omega)
/-- What of a text is to come. -/
def tl (s : ByteArray) (i : Nat) : List UInt8 := s.data.toList.drop i
theorem tl_ne {s : ByteArray} {i : Nat} (h : i < s.size) : tl s i ≠ [] := by
  intro e
  have h1 := congrArg List.length e
  unfold tl at h1
  rw [List.length_drop, List.length_nil] at h1
  have h2 : s.size = s.data.toList.length := rfl
  omega
theorem tl_end {s : ByteArray} {i : Nat} (h : ¬ i < s.size) : tl s i = [] := by
  refine List.eq_nil_of_length_eq_zero ?_
  unfold tl
  rw [List.length_drop]
  have h2 : s.size = s.data.toList.length := rfl
  omega
theorem tl_drop (s : ByteArray) (i k : Nat) : (tl s i).drop k = tl s (i + k) := by unfold tl; rw [List.drop_drop]
theorem tl_length (s : ByteArray) (i : Nat) : (tl s i).length = s.size - i := by
  unfold tl
  rw [List.length_drop]
  rfl
theorem tl_dec {s : ByteArray} {i : Nat} (h : i < s.size) : Go.Utf8.decode s i = decL (tl s i) := decode_L s i h
theorem tl_step {s : ByteArray} {i : Nat} (h : i < s.size) : 1 ≤ (decL (tl s i)).2 ∧ i + (decL (tl s i)).2 ≤ s.size ∧ (decL (tl s i)).1 ≤ 1114111 := by
  obtain ⟨h1, h2, h3⟩ := decL_step (tl s i) (tl_ne h)
  rw [tl_length] at h2
  unfold Val at h3
  omega
theorem tl_zero (s : ByteArray) : tl s 0 = s.data.toList := rfl

/-- names.Right. -/
theorem nright_any (s : ByteArray) (w : World) (hs : s.size ≤ 9223372036854775807) :
    Calls Tryz.prog 98 #[.string s] w fun e w' => e = .returned (.bool (nameB s.data.toList)) ∧ Below w.heap.size w w' := by
  have hf : Hid (¬ (1 ≤ s.size ∧ s.size ≤ 16) → nameB s.data.toList = false) := fun h => nameB_f (fun k => h ⟨k.1, k.2.1⟩)
  go_enter Tryz.func98, Tryz.ntmps98
  go_wp2
  any_goals (go_ret; exact ⟨ret_bool (hf (by omega)).symm, Below.refl _ _⟩)
  go_loopw [] (fun wr => ∃ pos : Nat, wr = w.iter s pos ∧ Hid (pos ≤ s.size ∧ (Named (tl s pos) ↔ Named (tl s 0)))) (fun wr => s.size - wr.iterPos w.heap.size)
  case atStart => exact ⟨0, rfl, ⟨Nat.zero_le _, Iff.rfl⟩⟩
  case round =>
    obtain ⟨pos, rfl, hq⟩ := hrel
    by_cases hp : pos < s.size
    · have hnx : ∀ ty, (Instr.next (.pointer (some ⟨w.heap.size, 0, none⟩)) true ty).run Tryz.prog (w.iter s pos) = _ := fun ty => run_next_any w s pos ty hp
      obtain ⟨k1, k2, k3⟩ := tl_step hp
      rw [tl_dec hp] at hnx
      obtain ⟨r, k, hd⟩ : ∃ r k, decL (tl s pos) = (r, k) := ⟨_, _, rfl⟩
      rw [hd] at hnx k1 k2 k3
      simp only at hnx k1 k2 k3
      have hst : Hid (Named (tl s pos) ↔ okR r ∧ Named (tl s (pos + k))) := by
        have := named_step (tl s pos) (tl_ne hp)
        rw [hd, tl_drop] at this
        exact this
      cases hok : okB r with
      | true =>
        go_wp2_with (first | (go_at_call 118; with_reducible refine (stands_any _ _ k3).mono ?_; rintro e w' ⟨rfl, rfl⟩))
        refine ⟨⟨pos + k, rfl, k2, ?_⟩, by rw [World.iterPos_iter, World.iterPos_iter]; omega⟩
        exact ⟨fun h => hq.2.1 (hst.2 ⟨okB_t hok, h⟩), fun h => (hst.1 (hq.2.2 h)).2⟩
      | false =>
        go_wp2_with (first | (go_at_call 118; with_reducible refine (stands_any _ _ k3).mono ?_; rintro e w' ⟨rfl, rfl⟩))
        go_ret
        refine ⟨ret_bool (nameB_f (fun h => okB_f hok (hst.1 (hq.2.2 h.2.2)).1)).symm, ?_⟩
        exact (Below.refl _ w).alloc (Nat.le_refl _) _
    · have hnx : ∀ ty, (Instr.next (.pointer (some ⟨w.heap.size, 0, none⟩)) true ty).run Tryz.prog (w.iter s pos) = _ := fun ty => run_next_end w s pos ty hp
      go_wp2
      go_ret
      have hn : Named (tl s 0) := hq.2.1 (by rw [tl_end hp]; exact .nil)
      refine ⟨ret_bool (nameB_t ⟨?_, ?_, hn⟩).symm, ?_⟩
      · show 1 ≤ s.size; omega
      · show s.size ≤ 16; omega
      · exact (Below.refl _ w).alloc (Nat.le_refl _) _
end Go.Proofs.YtpbljjbhfhfmgaaGreatDoor
