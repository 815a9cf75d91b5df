/- 'ClassBack' walked: Cell and Which undo each other. -/
import Derived.Test.YtdpdgmdfffedpaaDoorSmallCls
namespace Go.Proofs.YtdpdgmdfffedpaaDoor
set_option maxRecDepth 100000
open Go.RowKit
set_option linter.unusedVariables false
set_option linter.unusedSimpArgs false
set_option maxRecDepth 100000

theorem classBack_walk (w : World) (T : Cws w) (c : Int) (hw0 : (Lit.int .i64 c).wf = true) (k : Int) (hw1 : (Lit.int .i64 k).wf = true) (o : Int) (hw2 : (Lit.int .i64 o).wf = true) :
    Calls Tryd.prog 5 #[.int .i64 c, .int .i64 k, .int .i64 o] w fun e w' => e = .returned (.bool true) ∧ Below w.heap.size w w' := by
  obtain ⟨_, ho⟩ := bounds_i64 hw2
  have cS := smallC_any w T
  have c1 := cell_any c k w T
  have c2 := which_any c o (by omega) w T
  clear hw0 hw1 hw2
  by_cases hk : CtOk c k
  · obtain ⟨x1, x2⟩ := wh_ct hk
    obtain ⟨a, ha⟩ : ∃ a, ctN c k = a := ⟨_, rfl⟩
    have cl := cls_in hk.cls
    have ha0 : a ≤ 300 := by
      obtain ⟨k0, k1⟩ := hk
      rw [← ha, (ct_t ⟨k0, k1⟩).1]
      have := Int.mul_le_mul (show k ≤ 14 by omega) (show wdN c ≤ 15 by omega) (by omega) (by omega)
      omega
    have c3 := which_any c a (by omega) w T
    rw [ha] at x1 x2
    rw [x2, (wh_t x1).2] at c3
    rw [ha, (ct_t hk).2] at c1
    clear x1 x2 ha ha0 hk cl
    by_cases hq : WhOk c o
    · obtain ⟨y1, y2⟩ := ct_wh hq
      rw [(wh_t hq).2] at c2
      have c4 := cell_any c (whN c o) w T
      rw [y2, (ct_t y1).2] at c4
      clear y1 y2 hq ho T
      generalize whN c o = q at *
      go_enter Tryd.func5, Tryd.ntmps5
      go_wp2_with (first
        | (go_at_call 7; with_reducible refine cS.mono ?_; rintro e w' ⟨rfl, rfl⟩)
        | (go_at_call 16; with_reducible refine c1.mono ?_; rintro e w' ⟨rfl, rfl⟩)
        | (go_at_call 16; with_reducible refine c4.mono ?_; rintro e w' ⟨rfl, rfl⟩)
        | (go_at_call 18; with_reducible refine c3.mono ?_; rintro e w' ⟨rfl, rfl⟩)
        | (go_at_call 18; with_reducible refine c2.mono ?_; rintro e w' ⟨rfl, rfl⟩))
      all_goals (go_ret; exact ⟨rfl, Below.refl _ _⟩)
    · rw [(wh_f hq).1, (wh_f hq).2] at c2
      clear hq ho T
      go_enter Tryd.func5, Tryd.ntmps5
      go_wp2_with (first
        | (go_at_call 7; with_reducible refine cS.mono ?_; rintro e w' ⟨rfl, rfl⟩)
        | (go_at_call 16; with_reducible refine c1.mono ?_; rintro e w' ⟨rfl, rfl⟩)
        | (go_at_call 18; with_reducible refine c3.mono ?_; rintro e w' ⟨rfl, rfl⟩)
        | (go_at_call 18; with_reducible refine c2.mono ?_; rintro e w' ⟨rfl, rfl⟩))
      all_goals (go_ret; exact ⟨rfl, Below.refl _ _⟩)
  · rw [(ct_f hk).1, (ct_f hk).2] at c1
    clear hk
    by_cases hq : WhOk c o
    · obtain ⟨y1, y2⟩ := ct_wh hq
      rw [(wh_t hq).2] at c2
      have c4 := cell_any c (whN c o) w T
      rw [y2, (ct_t y1).2] at c4
      clear y1 y2 hq ho T
      generalize whN c o = q at *
      go_enter Tryd.func5, Tryd.ntmps5
      go_wp2_with (first
        | (go_at_call 7; with_reducible refine cS.mono ?_; rintro e w' ⟨rfl, rfl⟩)
        | (go_at_call 16; with_reducible refine c1.mono ?_; rintro e w' ⟨rfl, rfl⟩)
        | (go_at_call 16; with_reducible refine c4.mono ?_; rintro e w' ⟨rfl, rfl⟩)
        | (go_at_call 18; with_reducible refine c2.mono ?_; rintro e w' ⟨rfl, rfl⟩))
      all_goals (go_ret; exact ⟨rfl, Below.refl _ _⟩)
    · rw [(wh_f hq).1, (wh_f hq).2] at c2
      clear hq ho T
      go_enter Tryd.func5, Tryd.ntmps5
      go_wp2_with (first
        | (go_at_call 7; with_reducible refine cS.mono ?_; rintro e w' ⟨rfl, rfl⟩)
        | (go_at_call 16; with_reducible refine c1.mono ?_; rintro e w' ⟨rfl, rfl⟩)
        | (go_at_call 18; with_reducible refine c2.mono ?_; rintro e w' ⟨rfl, rfl⟩))
      all_goals (go_ret; exact ⟨rfl, Below.refl _ _⟩)
end Go.Proofs.YtdpdgmdfffedpaaDoor
