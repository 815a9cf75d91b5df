/- joistlaw13.small and same by their contracts. -/
import Derived.Test.YtlghhhhgfnnjgabDoorPagZ
namespace Go.Proofs.YtlghhhhgfnnjgabDoor
set_option maxRecDepth 100000
open Go.RowKit
set_option linter.unusedVariables false
set_option linter.unusedSimpArgs false
set_option maxRecDepth 100000

def twoJ : List Spn := [⟨4, 16⟩, ⟨32, 300⟩]
theorem two_js (w : World) : Ps (w.alloc (.cells #[.int .i64 4, .int .i64 16, .int .i64 32, .int .i64 300] 32)) (some ⟨w.heap.size, 0, none⟩) 2 2 twoJ := by
  refine ⟨rfl, Nat.le_refl _, (by intro h; cases h), fun _ => ⟨w.heap.size, 0, rfl, by simp, fun i hi => P2.of fun j u hu => ?_⟩, fun x hx => ?_⟩
  · rw [cell_of_row _ w.heap.size _ _ 32 (0, 0) (heap_alloc_new w _)]
    have hj : j < 2 := (List.getElem?_eq_some_iff.1 hu).1
    rcases (show i = 0 ∨ i = 1 by omega) with rfl | rfl <;> rcases (show j = 0 ∨ j = 1 by omega) with rfl | rfl <;> exact hu
  · simp only [twoJ, List.mem_cons, List.not_mem_nil, or_false] at hx
    rcases hx with rfl | rfl <;> exact ⟨by unfold Rg; decide, by unfold Rg; decide⟩
theorem two_kinds : rtO 3 twoJ = true ∧ kzL 3 twoJ = [0, 6, 7] := by decide +kernel
theorem two_8 : pcN 4 twoJ 8 = 6 ∧ pcB 4 twoJ 8 = true := by decide +kernel
theorem two_120 : pcN 4 twoJ 120 = 100 ∧ pcB 4 twoJ 120 = true := by decide +kernel
theorem two_300 : pcN 4 twoJ 300 = 0 ∧ pcB 4 twoJ 300 = false := by decide +kernel

theorem own_three {w : World} {B : Nat} {bo : Option Addr} {m c : Nat} {x y z : Int} (h : Own .i64 3 B w bo m c [x, y, z]) :
    m = 3 ∧ ∃ g, bo = some ⟨g, 0, none⟩ ∧ w.cell? ⟨g, 0, none⟩ = some (.int .i64 x) ∧ w.cell? ⟨g, 1, none⟩ = some (.int .i64 y) ∧ w.cell? ⟨g, 2, none⟩ = some (.int .i64 z) := by
  obtain rfl : 3 = m := h.len
  obtain ⟨g, c', e⟩ := own_shape h.row (by omega)
  simp only [Value.slice.injEq] at e
  obtain ⟨rfl, _, rfl⟩ := e
  exact ⟨rfl, g, rfl, h.at 0 (by omega) rfl, h.at 1 (by omega) rfl, h.at 2 (by omega) rfl⟩

theorem smallG_any (w : World) (T : Cws w) :
    Calls Tryd.prog 4 #[] w fun e w' => e = .returned (.bool true) ∧ Below w.heap.size w w' := by
  have hbA : Below w.heap.size w (w.alloc (.cells #[.int .i64 4, .int .i64 16, .int .i64 32, .int .i64 300] 32)) := (Below.refl _ w).alloc (Nat.le_refl _) _
  have HPS := hid (two_js w)
  have TA := T.kept hbA
  have cK := kinds_ps 3 _ 2 2 twoJ _ TA (two_js w) (by omega)
  rw [two_kinds.1, two_kinds.2] at cK
  have cP := fun z w' (hb : Below _ (w.alloc (.cells #[.int .i64 4, .int .i64 16, .int .i64 32, .int .i64 300] 32)) w') => place_ps 4 _ 2 2 twoJ z w' (TA.kept hb) ((two_js w).below hb) (by omega)
  have cP1 := cP 8
  rw [two_8.1, two_8.2] at cP1
  have cP2 := cP 120
  rw [two_120.1, two_120.2] at cP2
  have cP3 := cP 300
  rw [two_300.1, two_300.2] at cP3
  clear cP HPS TA T
  go_enter Tryd.func4, Tryd.ntmps4
  go_wp2_with (first
    | (go_at_call 7; with_reducible refine cK.mono ?_; rintro e w1 ⟨bo, m, c, rfl, ho, hb1⟩; have HO := hid ho; clear ho)
    | (go_at_call 8; with_reducible refine (cP1 _ hb1).mono ?_; rintro e w2 ⟨rfl, hb2⟩; have hb2a := next hb1 hb2)
    | (go_at_call 8; with_reducible refine (cP2 _ hb2a).mono ?_; rintro e w3 ⟨rfl, hb3⟩; have hb3a := next hb2a hb3)
    | (go_at_call 8; with_reducible refine (cP3 _ hb3a).mono ?_; rintro e w4 ⟨rfl, hb4⟩; have hb4a := next hb3a hb4; obtain ⟨rfl, g, rfl, r0, r1, r2⟩ := own_three (HO.out.below (next (next hb2 hb3) hb4)); clear HO))
  go_ret
  exact ⟨rfl, next hbA hb4a⟩

end Go.Proofs.YtlghhhhgfnnjgabDoor
