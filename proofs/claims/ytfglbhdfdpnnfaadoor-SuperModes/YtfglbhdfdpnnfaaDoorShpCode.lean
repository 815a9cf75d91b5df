/- shape.Right, Areas, Outside by their contracts. -/
import Derived.Test.YtfglbhdfdpnnfaaDoorShcC
import Derived.Test.YtfglbhdfdpnnfaaDoorRefShq
namespace Go.Proofs.YtfglbhdfdpnnfaaDoor
set_option maxRecDepth 100000
open Go.RowKit
set_option linter.unusedVariables false
set_option linter.unusedSimpArgs false
set_option maxRecDepth 100000

theorem shRight_any (s : Shp) (hs : ShG s) (w : World) :
    Calls Tryd.prog 27 #[.agg #[.int .i64 s.pg, .int .i64 s.sl, .int .i64 s.rt, .int .i64 s.rm]] w fun e w' => e = .returned (.bool (shB s)) ∧ Below w.heap.size w w' := by
  have hb0 : Below w.heap.size w (w.alloc (.cells #[.int .i64 s.pg, .int .i64 s.sl, .int .i64 s.rt, .int .i64 s.rm] 23)) := (Below.refl _ _).alloc (Nat.le_refl _) _
  have cR : ∀ w1, _ := fun w1 => areasOf_any s w1
  by_cases hR : ShR s
  · rw [show shB s = true from decide_eq_true hR]
    obtain ⟨e0, e1, e2, e3, e4, e5, e6, e7, e8, e9⟩ := ar_t hR
    rw [e0, e1, e2, e3, e4, e5, e6, e7, e8] at cR
    clear e0 e1 e2 e3 e4 e5 e6 e7 e8 e9 hR
    generalize lnN s = LN at *
    generalize hdN s = HD at *
    generalize tbN s = TB at *
    generalize rtN s = RT at *
    generalize trN s = TR at *
    generalize hpN s = HP at *
    go_enter Tryd.func27, Tryd.ntmps27
    go_wp2_with (first
      | (go_at_call 39; with_reducible refine (cR _).mono ?_; rintro e w1 ⟨rfl, hb1⟩))
    go_ret
    exact ⟨rfl, next hb0 hb1⟩
  · rw [show shB s = false from decide_eq_false hR]
    obtain ⟨e0, e1, e2, e3, e4, e5, e6, e7, e8, e9⟩ := ar_f hR
    rw [e0, e1, e2, e3, e4, e5, e6, e7, e8] at cR
    clear e0 e1 e2 e3 e4 e5 e6 e7 e8 e9 hR
    go_enter Tryd.func27, Tryd.ntmps27
    go_wp2_with (first
      | (go_at_call 39; with_reducible refine (cR _).mono ?_; rintro e w1 ⟨rfl, hb1⟩))
    go_ret
    exact ⟨rfl, next hb0 hb1⟩
end Go.Proofs.YtfglbhdfdpnnfaaDoor
