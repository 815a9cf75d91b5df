/- 'ClassTells' walked: classes, cells and pages are the document's. -/
import Derived.Test.YtdpdgmdfffedpaaDoorSmallCls
import Derived.Test.YtdpdgmdfffedpaaDoorClsB
namespace Go.Proofs.YtdpdgmdfffedpaaDoor
set_option maxRecDepth 100000
open Go.RowKit
set_option linter.unusedVariables false
set_option linter.unusedSimpArgs false
set_option maxRecDepth 100000

theorem classTells_walk (w : World) (T : Cws w) (n : Int) (hw0 : (Lit.int .i64 n).wf = true) (c : Int) (hw1 : (Lit.int .i64 c).wf = true) (k : Int) (hw2 : (Lit.int .i64 k).wf = true) (o : Int) (hw3 : (Lit.int .i64 o).wf = true) :
    Calls Tryd.prog 3 #[.int .i64 n, .int .i64 c, .int .i64 k, .int .i64 o] w fun e w' => e = .returned (.bool true) ∧ Below w.heap.size w w' := by
  obtain ⟨_, ho⟩ := bounds_i64 hw3
  have ho' : o ≤ 9223372036854775807 := by omega
  clear hw0 hw1 hw2 hw3
  have cS := smallC_any w T
  have cO := of_any n w T
  have rO := fun w' => rof_any n w'
  have cW := fun w' T' => words_any c w' T'
  have rW := fun w' => rwords_any c w'
  have cC := fun w' T' => cells_any c w' T'
  have rC := fun w' => rcells_any c w'
  have cP := fun w' T' => pages_any n w' T'
  have rP := fun w' => rpages_any n w'
  have cL := fun w' T' => cell_any c k w' T'
  have rL := fun w' => rcell_any c k w'
  have cH := fun w' T' => which_any c o ho' w' T'
  have rH := fun w' => rwhich_any c o w'
  generalize (clN n : Int) = v1 at *
  generalize clB n = b1 at *
  generalize wdN c = v2 at *
  generalize wdE c = e2 at *
  generalize ceN c = v3 at *
  generalize pgN n = v4 at *
  generalize pgE n = e4 at *
  generalize ctN c k = v5 at *
  generalize ctE c k = e5 at *
  generalize whN c o = v6 at *
  generalize whB c o = b6 at *
  clear ho ho'
  go_enter Tryd.func3, Tryd.ntmps3
  go_wp2_with (first
    | (go_at_call 7; with_reducible refine cS.mono ?_; rintro e w' ⟨rfl, rfl⟩)
    | (go_at_call 8; with_reducible refine cO.mono ?_; rintro e w' ⟨rfl, rfl⟩)
    | (go_at_call 9; with_reducible refine (rO _).mono ?_; rintro e w1 ⟨rfl, hb1⟩; have T1 := T.kept hb1)
    | (go_at_call 10; with_reducible refine (cW _ T1).mono ?_; rintro e w' ⟨rfl, rfl⟩)
    | (go_at_call 11; with_reducible refine (rW _).mono ?_; rintro e w2 ⟨rfl, hb2⟩; have T2 := T1.kept hb2)
    | (go_at_call 12; with_reducible refine (cC _ T2).mono ?_; rintro e w' ⟨rfl, rfl⟩)
    | (go_at_call 13; with_reducible refine (rC _).mono ?_; rintro e w3 ⟨rfl, hb3⟩; have T3 := T2.kept hb3)
    | (go_at_call 14; with_reducible refine (cP _ T3).mono ?_; rintro e w' ⟨rfl, rfl⟩)
    | (go_at_call 15; with_reducible refine (rP _).mono ?_; rintro e w' ⟨rfl, rfl⟩)
    | (go_at_call 16; with_reducible refine (cL _ T3).mono ?_; rintro e w' ⟨rfl, rfl⟩)
    | (go_at_call 17; with_reducible refine (rL _).mono ?_; rintro e w4 ⟨rfl, hb4⟩; have T4 := T3.kept hb4)
    | (go_at_call 18; with_reducible refine (cH _ T4).mono ?_; rintro e w' ⟨rfl, rfl⟩)
    | (go_at_call 19; with_reducible refine (rH _).mono ?_; rintro e w5 ⟨rfl, hb5⟩))
  all_goals (go_ret; exact ⟨rfl, next (next (next (next hb1 hb2) hb3) hb4) hb5⟩)
end Go.Proofs.YtdpdgmdfffedpaaDoor
