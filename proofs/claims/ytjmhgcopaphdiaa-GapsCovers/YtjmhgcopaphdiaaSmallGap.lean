/- joistlaw10.small by its contract. -/
import Derived.Test.YtjmhgcopaphdiaaGapD
import Derived.Test.YtjmhgcopaphdiaaGapF
namespace Go.Proofs.Ytjmhgcopaphdiaa
set_option maxRecDepth 100000
open Go.RowKit
set_option linter.unusedVariables false
set_option linter.unusedSimpArgs false
set_option maxRecDepth 100000

def smU : List Spn := [⟨4, 8⟩]
def smG : List Spn := [⟨0, 4⟩, ⟨12, 20⟩]
theorem smU_rg : RgP ⟨4, 8⟩ := ⟨by unfold Rg; decide, by unfold Rg; decide⟩
theorem smU_ps (w : World) : Ps (w.alloc (.cells #[.int .i64 4, .int .i64 8] 34)) (some ⟨w.heap.size, 0, none⟩) 1 1 smU := by
  refine ⟨rfl, Nat.le_refl _, (by intro h; cases h), fun _ => ⟨w.heap.size, 0, rfl, by simp, fun i hi => ?_⟩, fun x hx => by rw [smU, List.mem_singleton] at hx; rw [hx]; exact smU_rg⟩
  obtain rfl : i = 0 := by omega
  exact (bxP_new w ⟨4, 8⟩).p2
theorem sm_need (w : World) : Calls Try.prog 10 #[.int .i64 17] w fun e w' => e = .returned (.tuple #[.int .i64 8, .int .i64 0]) ∧ w = w' := need_any 17 w
theorem sm_gaps (ao : Option Addr) (w : World) (h : Ps w ao 1 1 smU) : Calls Try.prog 12 #[.int .i64 0, .int .i64 32, .slice ao 1 1] w fun e w' => ∃ g c, e = .returned (.tuple #[.slice (some ⟨g, 0, none⟩) 2 c, .int .i64 0]) ∧ OwP w.heap.size w' (some ⟨g, 0, none⟩) 2 c smG ∧ Below w.heap.size w w' := by
  refine (gapsP_ps 0 32 ao 1 1 smU w h (by omega)).mono ?_
  rintro e w' ⟨bo, m, c, rfl, ho, hb⟩
  have e1 : gpL 0 32 smU = smG := by decide
  have e2 : gpE 0 32 smU = 0 := by decide
  rw [e1] at ho
  rw [e2]
  obtain rfl : 2 = m := ho.len
  obtain ⟨g, rfl, _, _⟩ := ho.shape (by omega)
  exact ⟨g, c, rfl, ho, hb⟩
theorem sm_best (ao : Option Addr) (c : Nat) (w : World) (h : Ps w ao 2 c smG) : Calls Try.prog 19 #[.slice ao 2 c, .int .i64 5] w fun e w' => e = .returned (.tuple #[.agg #[.int .i64 12, .int .i64 20], .bool true]) ∧ Below w.heap.size w w' := by
  refine (best_ps ao 2 c smG 5 w h (by omega)).mono ?_
  rintro e w' ⟨rfl, hb⟩
  have e1 : bsN smG 5 = ⟨12, 20⟩ := by decide
  have e2 : bsB smG 5 = true := by decide
  rw [e1, e2]
  exact ⟨rfl, hb⟩
theorem sm_none (ao : Option Addr) (c : Nat) (w : World) (h : Ps w ao 2 c smG) : Calls Try.prog 19 #[.slice ao 2 c, .int .i64 21] w fun e w' => e = .returned (.tuple #[.agg #[.int .i64 0, .int .i64 0], .bool false]) ∧ Below w.heap.size w w' := by
  refine (best_ps ao 2 c smG 21 w h (by omega)).mono ?_
  rintro e w' ⟨rfl, hb⟩
  have e1 : bsN smG 21 = ⟨0, 0⟩ := by decide
  have e2 : bsB smG 21 = false := by decide
  rw [e1, e2]
  exact ⟨rfl, hb⟩
theorem sm_behind (ao : Option Addr) (w : World) (h : Ps w ao 1 1 smU) : Calls Try.prog 14 #[.int .i64 0, .int .i64 32, .slice ao 1 1, .int .i64 0] w fun e w' => e = .returned (.tuple #[.int .i64 20, .int .i64 0]) ∧ Below w.heap.size w w' := by
  refine (behindP_ps 0 32 ao 1 1 smU 0 w h (by omega)).mono ?_
  rintro e w' ⟨rfl, hb⟩
  have e1 : bhV 0 32 smU 0 = 20 := by decide
  have e2 : bhE 0 32 smU 0 = 0 := by decide
  rw [e1, e2]
  exact ⟨rfl, hb⟩
theorem smallP_any (w : World) : Calls Try.prog 9 #[] w fun e w' => e = .returned (.bool true) ∧ Below w.heap.size w w' := by
  have cU := smU_ps
  have cG := fun w' => sm_gaps (some ⟨w'.heap.size, 0, none⟩) _ (smU_ps w')
  have cB : ∀ (w' : World) (o : Obj), Calls Try.prog 14 #[.int .i64 0, .int .i64 32, .slice (some ⟨w'.heap.size + 1, 0, none⟩) 1 1, .int .i64 0] ((w'.alloc o).alloc (.cells #[.int .i64 4, .int .i64 8] 34)) fun e w'' => e = .returned (.tuple #[.int .i64 20, .int .i64 0]) ∧ Below ((w'.alloc o).alloc (.cells #[.int .i64 4, .int .i64 8] 34)).heap.size ((w'.alloc o).alloc (.cells #[.int .i64 4, .int .i64 8] 34)) w'' := fun w' o => by
    have h := smU_ps (w'.alloc o)
    rw [show (w'.alloc o).heap.size = w'.heap.size + 1 by simp] at h
    exact sm_behind _ _ h
  have Hal : Hid (∀ w' : World, ∀ o : Obj, Below w.heap.size w w' → Below w.heap.size w (w'.alloc o)) := fun w' o h => h.alloc h.size o
  have Hal2 : Hid (∀ w' : World, ∀ o : Obj, Below w'.heap.size w' (w'.alloc o)) := fun w' o => (Below.refl _ _).alloc (Nat.le_refl _) o
  go_enter Try.func9, Try.ntmps9
  go_wp2_with (first
    | (go_at_call 10; with_reducible refine (sm_need _).mono ?_; rintro e w1 ⟨rfl, rfl⟩)
    | (go_at_call 12; with_reducible refine (cG _).mono ?_; rintro e w1 ⟨g, c, rfl, ho1, hb1⟩; have hb1' := next (Hal.out _ _ (Below.refl _ _)) hb1; clear hb1)
    | (go_at_call 19; with_reducible refine (sm_best _ _ _ ho1.ps).mono ?_; rintro e w2 ⟨rfl, hb2⟩; have hb2' := next hb1' hb2; have ho2 := ho1.below hb2; have hx2 := hid (bxP_new' w2 12 20); clear hb2)
    | (go_at_call 19; with_reducible refine (sm_none _ _ _ (ho2.below (Hal2.out _ _)).ps).mono ?_; rintro e w3 ⟨rfl, hb3⟩; have hb3' := next (Hal.out _ _ hb2') hb3; have ho3 := (ho2.below (Hal2.out _ _)).below hb3; have hx3 := hid (hx2.out.kept hb3); clear hb3)
    | (go_at_call 14; with_reducible refine (cB _ _).mono ?_; rintro e w4 ⟨rfl, hb4⟩; have hb4' := next (Hal.out _ _ (Hal.out _ _ hb3')) hb4; have ho4 := ((ho3.below (Hal2.out _ _)).below (Hal2.out _ _)).below hb4; have hx4 := ((hx3.out.kept (Hal2.out _ _)).kept (Hal2.out _ _)).kept hb4; obtain ⟨q0, q1, _, _⟩ := hx4.cells; obtain ⟨r0, r1⟩ := ho4.ps.at (Below.refl _ _) (show 0 < 2 by omega); clear hb4))
  go_ret
  exact ⟨rfl, hb4'⟩
end Go.Proofs.Ytjmhgcopaphdiaa
