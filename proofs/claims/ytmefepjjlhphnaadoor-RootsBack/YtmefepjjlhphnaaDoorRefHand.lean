/- joistref07.Right, Code, Of and Compare by their contracts. -/
import Derived.Test.YtmefepjjlhphnaaDoorInfo
import Derived.Test.YtmefepjjlhphnaaDoorHandM
import Derived.Test.YtmefepjjlhphnaaDoorPart
import Derived.Laws.ResultCell
import Derived.Lib.OthersKept
namespace Go.Proofs.YtmefepjjlhphnaaDoor
set_option maxRecDepth 100000
open Go.RowKit
set_option linter.unusedVariables false
set_option linter.unusedSimpArgs false
set_option maxRecDepth 100000

theorem refHRight_any (I G : Int) (w : World) :
    Calls Tryd.prog 42 #[.agg #[.int .i64 I, .int .i64 G]] w fun e w' => e = .returned (.bool (rightHB I G)) ∧ Below w.heap.size w w' := by
  go_enter Tryd.func42, Tryd.ntmps42
  go_wp2
  all_goals (go_ret; refine ⟨ret_bool ?_, (Below.refl _ w).alloc (Nat.le_refl _) _⟩)
  all_goals (rw [Bool.eq_iff_iff, rightHB_iff]; simp only [decide_eq_true_eq, Bool.false_eq_true, false_iff]; omega)
/-- What was boxed stands. -/
theorem box_cells {w w1 : World} {a b : Value} {T : TypeId} (hb : Below (w.alloc (.cells #[a, b] T)).heap.size (w.alloc (.cells #[a, b] T)) w1) : w1.cell? ⟨w.heap.size, 0, none⟩ = some a ∧ w1.cell? ⟨w.heap.size, 1, none⟩ = some b := by
  have e : w1.heap[w.heap.size]? = some (.cells #[a, b] T (0, 0)) := by
    rw [hb.block _ (by simp)]
    show (w.heap.push _)[w.heap.size]? = _
    simp
  constructor
  · rw [Lib.cell_of_heap e]; rfl
  · rw [Lib.cell_of_heap e]; rfl
theorem refCode_any (I G : Int) (w : World) :
    Calls Tryd.prog 24 #[.agg #[.int .i64 I, .int .i64 G]] w fun e w' => e = .returned (.tuple #[.int .i64 (codN I G), .int .i64 (codE I G)]) ∧ Below w.heap.size w w' := by
  have hb : Below w.heap.size w (w.alloc (.cells #[.int .i64 I, .int .i64 G] 41)) := (Below.refl _ w).alloc (Nat.le_refl _) _
  by_cases h : RightH I G
  · have hr := refHRight_any I G
    rw [rightHB_t h] at hr
    rw [(cod_t h).1, (cod_t h).2]
    have h' : 0 ≤ I ∧ I < 32 ∧ 0 ≤ G ∧ G ≤ 65535 := h
    have hc : Hid (codeH I G = I * 65536 + G + 1) := rfl
    go_enter Tryd.func24, Tryd.ntmps24
    go_wp2_with (first | (go_at_call 42; with_reducible refine (hr _).mono ?_; rintro e w1 ⟨rfl, hb1⟩; obtain ⟨c0, c1⟩ := box_cells hb1))
    go_ret2
    refine ⟨?_, next hb hb1⟩
    rw [hc.out]
    rfl
  · have hr := refHRight_any I G
    rw [rightHB_f h] at hr
    rw [(cod_f h).1, (cod_f h).2]
    go_enter Tryd.func24, Tryd.ntmps24
    go_wp2_with (first | (go_at_call 42; with_reducible refine (hr _).mono ?_; rintro e w1 ⟨rfl, hb1⟩))
    go_ret2
    exact ⟨rfl, next hb hb1⟩
theorem refOf_any (n : Int) (w : World) (h0 : -9223372036854775808 ≤ n) (h1 : n ≤ 9223372036854775807) :
    Calls Tryd.prog 28 #[.int .i64 n] w fun e w' => e = .returned (.tuple #[.agg #[.int .i64 (ofI n), .int .i64 (ofG n)], .bool (ofHB n)]) ∧ Below w.heap.size w w' := by
  by_cases h : 1 ≤ n ∧ n ≤ 2097152
  · obtain ⟨e1, e2, e3⟩ := ofH_t h
    rw [e1, e2, e3]
    go_enter Tryd.func28, Tryd.ntmps28
    go_wp2
    all_goals first | (exfalso; omega) | (refine bodyPost_ret (v := .tuple #[.agg #[.int .i64 ((n - 1) / 65536), .int .i64 ((n - 1) % 65536)], .bool true]) (by simp [results, Tryd.results28, go_sem]) rfl ⟨rfl, (Below.refl _ w).alloc (Nat.le_refl _) _⟩)
  · obtain ⟨e1, e2, e3⟩ := ofH_f h
    rw [e1, e2, e3]
    go_enter Tryd.func28, Tryd.ntmps28
    go_wp2
    all_goals first | (exfalso; omega) | (refine bodyPost_ret (v := .tuple #[.agg #[.int .i64 0, .int .i64 0], .bool false]) (by simp [results, Tryd.results28, go_sem]) rfl ⟨rfl, (Below.refl _ w).alloc (Nat.le_refl _) _⟩)
end Go.Proofs.YtmefepjjlhphnaaDoor
