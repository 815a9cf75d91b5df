/- joistlaw16.small by its contract. -/
import Derived.Test.YtgjigjjlkpkjeaaShpCode
namespace Go.Proofs.Ytgjigjjlkpkjeaa
set_option maxRecDepth 100000
open Go.RowKit
set_option linter.unusedVariables false
set_option linter.unusedSimpArgs false
set_option maxRecDepth 100000

theorem shp_small : ShR ⟨4, 4, 2, 30⟩ ∧ ¬ ShR ⟨0, 0, 0, 0⟩ ∧ ar0 ⟨4, 4, 2, 30⟩ = 1 ∧ ar1 ⟨4, 4, 2, 30⟩ = 2 ∧ ar2 ⟨4, 4, 2, 30⟩ = 30 ∧ ar3 ⟨4, 4, 2, 30⟩ = 62 ∧ ar4 ⟨4, 4, 2, 30⟩ = 63 ∧ ar5 ⟨4, 4, 2, 30⟩ = 65 ∧ ar6 ⟨4, 4, 2, 30⟩ = 66 ∧ ar7 ⟨4, 4, 2, 30⟩ = 92 ∧ ar8 ⟨4, 4, 2, 30⟩ = 108 ∧ arE ⟨4, 4, 2, 30⟩ = 0 := by decide
theorem smallSh_any (w : World) :
    Calls Try.prog 6 #[] w fun e w' => e = .returned (.bool true) ∧ Below w.heap.size w w' := by
  obtain ⟨h1, h2, e0, e1, e2, e3, e4, e5, e6, e7, e8, e9⟩ := shp_small
  have cA := shAreas_any ⟨4, 4, 2, 30⟩ h1.g w
  rw [e0, e1, e2, e3, e4, e5, e6, e7, e8, e9] at cA
  have cR : ∀ w1, _ := fun w1 => shRight_any ⟨0, 0, 0, 0⟩ ⟨⟨by decide, by decide⟩, ⟨by decide, by decide⟩, ⟨by decide, by decide⟩, ⟨by decide, by decide⟩⟩ w1
  rw [show shB ⟨0, 0, 0, 0⟩ = false from decide_eq_false h2] at cR
  simp only at cA cR
  clear h1 h2 e0 e1 e2 e3 e4 e5 e6 e7 e8 e9
  go_enter Try.func6, Try.ntmps6
  go_wp2_with (first
    | (go_at_call 7; with_reducible refine cA.mono ?_; rintro e w1 ⟨rfl, hb1⟩)
    | (go_at_call 9; with_reducible refine (cR _).mono ?_; rintro e w2 ⟨rfl, hb2⟩))
  go_ret
  exact ⟨rfl, next (hb1.alloc hb1.size _) hb2⟩
end Go.Proofs.Ytgjigjjlkpkjeaa
