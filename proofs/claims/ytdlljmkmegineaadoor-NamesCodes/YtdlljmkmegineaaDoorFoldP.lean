/- names.Fold by its contract. -/
import Derived.Test.YtdlljmkmegineaaDoorNamesP
import Derived.Test.YtdlljmkmegineaaDoorLibs
import Derived.BigCall
namespace Go.Proofs.YtdlljmkmegineaaDoor
open Go.RowKit

set_option maxRecDepth 100000
set_option maxHeartbeats 4000000
/-- names.Fold. -/
theorem fold_any (s : ByteArray) (w : World) (hs : s.size ≤ 35184372088832) :
    Calls Tryd.prog 11 #[.string s] w fun e w' => e = .returned (.string ⟨(fold s.data.toList).toArray⟩) ∧ Below w.heap.size w w' := by
  go_enter Tryd.func11, Tryd.ntmps11
  have hbk : (w.alloc (.cells #[.pointer none, .slice none 0 0] 41)).heap[w.heap.size]? = some (.cells #[.pointer none, .slice none 0 0] 41 (0, 0)) := by
    show (w.heap.push _)[w.heap.size]? = _
    simp
  have hbl0 : Below w.heap.size w (w.alloc (.cells #[.pointer none, .slice none 0 0] 41)) := (Below.refl _ w).alloc (Nat.le_refl _) _
  go_wp2_with (first | (go_at_call 22; refine (grow_fresh w.heap.size w.heap.size s.size _ (Nat.le_refl _) hbk hbl0.size (by omega)).mono ?_; rintro e w1 ⟨rfl, hB1, hbl1⟩))
  have hk0 : w.heap.size < w1.heap.size := by
    obtain ⟨_, v, hb, _⟩ := hB1
    exact (Array.getElem?_eq_some_iff.1 hb).1
  have hbw1 : Below w.heap.size w w1 := hbl0.trans hbl1
  clear hbl0 hbl1 hbk
  go_loopw [] (fun wr => ∃ (pos : Nat) (acc : List UInt8), Lib.IsBuilderF 41 5 w.heap.size w.heap.size (Lib.byteCells acc) wr ∧ wr.heap[w1.heap.size]? = some (.stringIter s pos) ∧ Below w.heap.size w wr ∧ Hid (acc ++ fold (tl s pos) = fold (tl s 0) ∧ pos ≤ s.size ∧ acc.length ≤ 4 * pos)) (fun wr => s.size - wr.iterPos w1.heap.size)
  case atStart =>
    exact ⟨0, [], (Lib.IsBuilderF.of (.inr hB1)).alloc _, World.iter_heap w1 s 0, hbw1.alloc (by omega) _, ⟨rfl, Nat.zero_le _, Nat.zero_le _⟩⟩
  case round =>
    obtain ⟨pos, acc, hI, hit, hbw, hq⟩ := hrel
    have hsz : w1.heap.size < wr.heap.size := (Array.getElem?_eq_some_iff.1 hit).1
    by_cases hp : pos < s.size
    · have hnx : ∀ ty, (Instr.next (.pointer (some ⟨w1.heap.size, 0, none⟩)) true ty).run Tryd.prog wr = _ := fun ty => Lib.run_next_any_at wr w1.heap.size s pos ty hit hp
      obtain ⟨k1, k2, k3⟩ := tl_step hp
      rw [tl_dec hp] at hnx
      obtain ⟨r, k, hd⟩ : ∃ r k, decL (tl s pos) = (r, k) := ⟨_, _, rfl⟩
      rw [hd] at hnx k1 k2 k3
      simp only at hnx k1 k2 k3
      have hst : Hid (fold (tl s pos) = Lib.encodeRune (great r) ++ fold (tl s (pos + k))) := by
        have := fold_step (tl s pos) (tl_ne hp)
        rw [hd, tl_drop] at this
        exact this
      have hI2 := hI.iterAt hit (pos + k)
      have hit2 := Lib.iterAt_heap wr w1.heap.size s pos (pos + k) hit
      have hbw2 := Lib.below_iterAt hbw (k := w1.heap.size) (by omega) s (pos + k)
      have hsz2 : w.heap.size ≤ (wr.iterAt w1.heap.size s (pos + k)).heap.size := by rw [Lib.iterAt_size]; omega
      have hg : great r ≤ 1114111 := by unfold great; split <;> omega
      have g0 : -2147483648 ≤ (great r : Int) := by omega
      have g1 : (great r : Int) ≤ 2147483647 := by omega
      have g2 : (Lib.byteCells acc).length + 4 ≤ 140737488355328 := by rw [Lib.byteCells_length]; have := hq.2.2; omega
      have hne : w1.heap.size ≠ w.heap.size := by omega
      go_wp2_with (first | (go_at_call 24; with_reducible refine (great_any _ _ k3).mono ?_; rintro e w' ⟨rfl, rfl⟩) | (go_at_call 23; refine (write_rune w.heap.size w.heap.size _ _ g0 g1 _ hI2 g2 hsz2).mono ?_; rintro e W1 ⟨rfl, h1, b1, kk1⟩))
      have hit3 := kk1.iter hit2 hne
      have hl4 := enc_len (great r)
      refine ⟨⟨pos + k, acc ++ Lib.encodeRune (great r), ?_, hit3, hbw2.trans b1, ?_, k2, ?_⟩, ?_⟩
      · rw [Lib.byteCells_append, Lib.byteCells_encodeRune]; exact .inr h1
      · rw [List.append_assoc, ← show fold (tl s pos) = Lib.encodeRune (great r) ++ fold (tl s (pos + k)) from hst]; exact hq.1
      · rw [List.length_append]; have := hq.2.2; omega
      · simp only [World.iterPos, hit3, hit]; omega
    · have hnx : ∀ ty, (Instr.next (.pointer (some ⟨w1.heap.size, 0, none⟩)) true ty).run Tryd.prog wr = _ := fun ty => Lib.run_next_end_at wr w1.heap.size s pos ty hit hp
      go_wp2_with (first | (go_at_call 25; refine (builder_string w.heap.size w.heap.size acc _ hI (by omega)).mono ?_; rintro e W1 ⟨rfl, _, b1, _⟩))
      go_ret
      have he : fold s.data.toList = acc := by
        have := hq.1
        rw [tl_end hp, fold_nil, List.append_nil, tl_zero] at this
        exact this.symm
      rw [he]
      exact ⟨rfl, hbw.trans b1⟩
end Go.Proofs.YtdlljmkmegineaaDoor
