/- joistlaw06.NamesTells: the walk. -/
import Derived.Test.YtdlljmkmegineaaDoorSmallNames
import Derived.Test.YtdlljmkmegineaaDoorRefFold
namespace Go.Proofs.YtdlljmkmegineaaDoor
open Go.RowKit
set_option linter.unusedVariables false
set_option linter.unusedSimpArgs false

set_option maxRecDepth 100000
theorem namesTells_walk (w : World) (s : ByteArray) (hs : s.size ≤ maxLen) :
    Calls Tryd.prog 3 #[.string s] w fun e w' => e = .returned (.bool true) ∧ Below w.heap.size w w' := by
  have hs' : s.size ≤ 9223372036854775807 := by unfold maxLen at hs; omega
  have c9 := fun w => right_any s w hs'
  have c10 := fun w => refRight_any s w hs'
  obtain ⟨b, hb⟩ : ∃ b, nameB s.data.toList = b := ⟨_, rfl⟩
  rw [hb] at c9 c10
  clear hb
  by_cases hbig : 1024 < s.size
  · have hi : 1024 < (s.size : Int) := by omega
    go_enter Tryd.func3, Tryd.ntmps3
    go_wp2_with (first
      | (go_at_call 8; with_reducible refine (small_any _).mono ?_; rintro e w1 ⟨rfl, hb1⟩)
      | (go_at_call 9; with_reducible refine (c9 _).mono ?_; rintro e w2 ⟨rfl, hb2⟩)
      | (go_at_call 10; with_reducible refine (c10 _).mono ?_; rintro e w3 ⟨rfl, rfl⟩))
    go_ret
    exact ⟨rfl, next hb1 hb2⟩
  · have hi : ¬ 1024 < (s.size : Int) := by omega
    have c11 := fun w => fold_any s w (by omega)
    have c12 := fun w => refFold_any s w (by omega)
    obtain ⟨x, hx⟩ : ∃ x : ByteArray, (⟨(fold s.data.toList).toArray⟩ : ByteArray) = x := ⟨_, rfl⟩
    rw [hx] at c11 c12
    clear hx
    go_enter Tryd.func3, Tryd.ntmps3
    go_wp2_with (first
      | (go_at_call 8; with_reducible refine (small_any _).mono ?_; rintro e w1 ⟨rfl, hb1⟩)
      | (go_at_call 9; with_reducible refine (c9 _).mono ?_; rintro e w2 ⟨rfl, hb2⟩)
      | (go_at_call 10; with_reducible refine (c10 _).mono ?_; rintro e w3 ⟨rfl, rfl⟩)
      | (go_at_call 11; with_reducible refine (c11 _).mono ?_; rintro e w4 ⟨rfl, hb4⟩)
      | (go_at_call 12; with_reducible refine (c12 _).mono ?_; rintro e w5 ⟨rfl, hb5⟩))
    go_ret
    exact ⟨rfl, next (next (next hb1 hb2) hb4) hb5⟩
end Go.Proofs.YtdlljmkmegineaaDoor
