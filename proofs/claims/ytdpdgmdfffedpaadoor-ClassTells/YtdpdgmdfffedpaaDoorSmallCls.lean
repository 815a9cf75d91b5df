/- joistlaw12.small: a small case comes out right. -/
import Derived.Test.YtdpdgmdfffedpaaDoorClsA
namespace Go.Proofs.YtdpdgmdfffedpaaDoor
set_option maxRecDepth 100000
open Go.RowKit
set_option linter.unusedVariables false
set_option linter.unusedSimpArgs false
set_option maxRecDepth 100000

theorem smallC_any (w : World) (T : Cws w) :
    Calls Tryd.prog 7 #[] w fun e w' => e = .returned (.bool true) ∧ w = w' := by
  have c1 := of_any 17 w T
  have c2 := of_any 121 w T
  have c3 := cells_any 0 w T
  have c4 := pages_any 257 w T
  have c5 := cell_any 1 2 w T
  have c6 := which_any 1 10 (by omega) w T
  rw [show clN 17 = 1 by decide, show clB 17 = true by decide] at c1
  rw [show clN 121 = 0 by decide, show clB 121 = false by decide] at c2
  rw [show ceN 0 = 14 by decide, show wdE 0 = 0 by decide] at c3
  rw [show pgN 257 = 2 by decide, show pgE 257 = 0 by decide] at c4
  rw [show ctN 1 2 = 10 by decide, show ctE 1 2 = 0 by decide] at c5
  rw [show whN 1 10 = 2 by decide, show whB 1 10 = true by decide] at c6
  clear T
  go_enter Tryd.func7, Tryd.ntmps7
  go_wp2_with (first
    | (go_at_call 8; with_reducible refine c1.mono ?_; rintro e w' ⟨rfl, rfl⟩)
    | (go_at_call 8; with_reducible refine c2.mono ?_; rintro e w' ⟨rfl, rfl⟩)
    | (go_at_call 12; with_reducible refine c3.mono ?_; rintro e w' ⟨rfl, rfl⟩)
    | (go_at_call 14; with_reducible refine c4.mono ?_; rintro e w' ⟨rfl, rfl⟩)
    | (go_at_call 16; with_reducible refine c5.mono ?_; rintro e w' ⟨rfl, rfl⟩)
    | (go_at_call 18; with_reducible refine c6.mono ?_; rintro e w' ⟨rfl, rfl⟩))
  go_ret
  exact ⟨rfl, rfl⟩
end Go.Proofs.YtdpdgmdfffedpaaDoor
