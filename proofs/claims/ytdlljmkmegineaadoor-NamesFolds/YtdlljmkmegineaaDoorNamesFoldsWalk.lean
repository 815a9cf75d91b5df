/- joistlaw06.NamesFolds: the walk. -/
import Derived.Test.YtdlljmkmegineaaDoorSmallNames
namespace Go.Proofs.YtdlljmkmegineaaDoor
open Go.RowKit
set_option linter.unusedVariables false
set_option linter.unusedSimpArgs false

set_option maxRecDepth 100000
theorem namesFolds_walk (w : World) (s : ByteArray) (hs : s.size ≤ maxLen) :
    Calls Tryd.prog 6 #[.string s] w fun e w' => e = .returned (.bool true) ∧ Below w.heap.size w w' := by
  have hs' : s.size ≤ 9223372036854775807 := by unfold maxLen at hs; omega
  by_cases hbig : 4096 < s.size
  · have hi : 4096 < (s.size : Int) := by omega
    go_enter Tryd.func6, Tryd.ntmps6
    go_wp2_with (first | (go_at_call 8; with_reducible refine (small_any _).mono ?_; rintro e w1 ⟨rfl, hb1⟩))
    go_ret
    exact ⟨rfl, hb1⟩
  · have hi : ¬ 4096 < (s.size : Int) := by omega
    have hfl := fold_le s.data.toList
    have hz : s.data.toList.length = s.size := rfl
    obtain ⟨x, hx⟩ : ∃ x : ByteArray, (⟨(fold s.data.toList).toArray⟩ : ByteArray) = x := ⟨_, rfl⟩
    have hxl : x.data.toList = fold s.data.toList := by rw [← hx, mk_list]
    have hxs : x.size ≤ 16384 := by
      rw [← hx, mk_size]; omega
    have c1 : ∀ w, Calls Tryd.prog 11 #[.string s] w fun e w' => e = .returned (.string x) ∧ Below w.heap.size w w' := fun w => by
      have h := fold_any s w (by omega)
      rwa [hx] at h
    have c2 : ∀ w, Calls Tryd.prog 11 #[.string x] w fun e w' => e = .returned (.string x) ∧ Below w.heap.size w w' := fun w => by
      have h := fold_any x w (by omega)
      rwa [hxl, fold_fold, hx] at h
    have c3 := fun w => right_any s w hs'
    cases hn : nameB s.data.toList with
    | false =>
      rw [hn] at c3
      clear hxl hxs hz hfl hx hn
      go_enter Tryd.func6, Tryd.ntmps6
      go_wp2_with (first
        | (go_at_call 8; with_reducible refine (small_any _).mono ?_; rintro e w1 ⟨rfl, hb1⟩)
        | (go_at_call 11; with_reducible refine (c1 _).mono ?_; rintro e w2 ⟨rfl, hb2⟩)
        | (go_at_call 11; with_reducible refine (c2 _).mono ?_; rintro e w3 ⟨rfl, hb3⟩)
        | (go_at_call 9; with_reducible refine (c3 _).mono ?_; rintro e w4 ⟨rfl, hb4⟩))
      go_ret
      exact ⟨rfl, next (next (next hb1 hb2) hb3) hb4⟩
    | true =>
      have hN := (nameB_iff _).1 hn
      obtain ⟨f1, f2⟩ := named_fold hN.2.2
      have hss : x.size = s.size := by rw [← hx, mk_size, f2]; exact hz
      have c4 : ∀ w, Calls Tryd.prog 9 #[.string x] w fun e w' => e = .returned (.bool true) ∧ Below w.heap.size w w' := fun w => by
        have h := right_any x w (by omega)
        rwa [hxl, nameB_t ⟨by rw [f2]; exact hN.1, by rw [f2]; exact hN.2.1, f1⟩] at h
      rw [hn] at c3
      clear hxl hxs hz hfl hx hn hN f1 f2
      go_enter Tryd.func6, Tryd.ntmps6
      go_wp2_with (first
        | (go_at_call 8; with_reducible refine (small_any _).mono ?_; rintro e w1 ⟨rfl, hb1⟩)
        | (go_at_call 11; with_reducible refine (c1 _).mono ?_; rintro e w2 ⟨rfl, hb2⟩)
        | (go_at_call 11; with_reducible refine (c2 _).mono ?_; rintro e w3 ⟨rfl, hb3⟩)
        | (go_at_call 9; with_reducible refine (c3 _).mono ?_; rintro e w4 ⟨rfl, hb4⟩)
        | (go_at_call 9; with_reducible refine (c4 _).mono ?_; rintro e w5 ⟨rfl, hb5⟩))
      go_ret
      exact ⟨rfl, next (next (next (next hb1 hb2) hb3) hb4) hb5⟩
end Go.Proofs.YtdlljmkmegineaaDoor
