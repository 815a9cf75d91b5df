/- class.Of, Words, Cells, large, Pages, Cell, Which by their contracts. -/
import Derived.Test.YtfnnelkipdajiaaDoorClsM
import Derived.Test.YtfnnelkipdajiaaDoorPart
import Derived.Test.YtfnnelkipdajiaaDoorLent
import Derived.WalkKit
import Derived.LoopTactic
import Derived.Deep.RegionHeld3
namespace Go.Proofs.YtfnnelkipdajiaaDoor
set_option maxRecDepth 100000
open Go.RowKit
set_option linter.unusedVariables false
set_option linter.unusedSimpArgs false
set_option maxRecDepth 100000

/-- The words of the cells stand as they were laid. -/
structure Cws (w : World) : Prop where
  lt : 0 < w.heap.size
  spot : ∀ i, i < 6 → w.cell? ⟨0, i, none⟩ = some (.int .i64 (szL.getD i 0))
theorem Cws.off {F : Nat → Prop} {w w' : World} (h : Cws w) (ho : Off F w w') (hn : ¬ F 0) : Cws w' :=
  ⟨Nat.lt_of_lt_of_le h.lt ho.size, fun i hi => by rw [World.cell?_of_block (a := ⟨0, i, none⟩) (ho.block _ h.lt hn)]; exact h.spot i hi⟩
theorem Cws.kept {w w' : World} (h : Cws w) (hb : Below w.heap.size w w') : Cws w' := h.off (F := fun _ => False) (Off.of_below hb) (fun h => h)
theorem Cws.drew {w : World} (h : Cws w) : Cws w.drew := ⟨h.lt, h.spot⟩

theorem words_any (c : Int) (w : World) (T : Cws w) :
    Calls Tryd.prog 38 #[.int .i64 c] w fun e w' => e = .returned (.tuple #[.int .i64 (wdN c), .int .i64 (wdE c)]) ∧ w = w' := by
  rcases cls_cases c with (rfl | rfl | rfl | rfl | rfl | rfl) | h
  · have c0 : w.cell? ⟨0, 0, none⟩ = some (.int .i64 2) := T.spot 0 (by omega)
    have e1 : wdN 0 = 2 := by decide
    have e2 : wdE 0 = 0 := by decide
    rw [e1, e2]
    clear e1 e2
    go_enter Tryd.func38, Tryd.ntmps38
    go_wp2
    go_ret2
    exact ⟨rfl, rfl⟩
  · have c0 : w.cell? ⟨0, 1, none⟩ = some (.int .i64 3) := T.spot 1 (by omega)
    have e1 : wdN 1 = 3 := by decide
    have e2 : wdE 1 = 0 := by decide
    rw [e1, e2]
    clear e1 e2
    go_enter Tryd.func38, Tryd.ntmps38
    go_wp2
    go_ret2
    exact ⟨rfl, rfl⟩
  · have c0 : w.cell? ⟨0, 2, none⟩ = some (.int .i64 5) := T.spot 2 (by omega)
    have e1 : wdN 2 = 5 := by decide
    have e2 : wdE 2 = 0 := by decide
    rw [e1, e2]
    clear e1 e2
    go_enter Tryd.func38, Tryd.ntmps38
    go_wp2
    go_ret2
    exact ⟨rfl, rfl⟩
  · have c0 : w.cell? ⟨0, 3, none⟩ = some (.int .i64 7) := T.spot 3 (by omega)
    have e1 : wdN 3 = 7 := by decide
    have e2 : wdE 3 = 0 := by decide
    rw [e1, e2]
    clear e1 e2
    go_enter Tryd.func38, Tryd.ntmps38
    go_wp2
    go_ret2
    exact ⟨rfl, rfl⟩
  · have c0 : w.cell? ⟨0, 4, none⟩ = some (.int .i64 10) := T.spot 4 (by omega)
    have e1 : wdN 4 = 10 := by decide
    have e2 : wdE 4 = 0 := by decide
    rw [e1, e2]
    clear e1 e2
    go_enter Tryd.func38, Tryd.ntmps38
    go_wp2
    go_ret2
    exact ⟨rfl, rfl⟩
  · have c0 : w.cell? ⟨0, 5, none⟩ = some (.int .i64 15) := T.spot 5 (by omega)
    have e1 : wdN 5 = 15 := by decide
    have e2 : wdE 5 = 0 := by decide
    rw [e1, e2]
    clear e1 e2
    go_enter Tryd.func38, Tryd.ntmps38
    go_wp2
    go_ret2
    exact ⟨rfl, rfl⟩
  · rw [wdN_out h, wdE_out h]
    by_cases h1 : c < 0
    · clear h
      go_enter Tryd.func38, Tryd.ntmps38
      go_wp2
      go_ret2
      exact ⟨rfl, rfl⟩
    · have h2 : 6 ≤ c := by omega
      clear h
      go_enter Tryd.func38, Tryd.ntmps38
      go_wp2
      go_ret2
      exact ⟨rfl, rfl⟩

theorem cells_any (c : Int) (w : World) (T : Cws w) :
    Calls Tryd.prog 23 #[.int .i64 c] w fun e w' => e = .returned (.tuple #[.int .i64 (ceN c), .int .i64 (wdE c)]) ∧ w = w' := by
  have cW := words_any c w T
  rcases cls_cases c with (rfl | rfl | rfl | rfl | rfl | rfl) | h
  · rw [show wdN 0 = 2 by decide, show wdE 0 = 0 by decide] at cW
    rw [show ceN 0 = 14 by decide, show wdE 0 = 0 by decide]
    clear T
    go_enter Tryd.func23, Tryd.ntmps23
    go_wp2_with (go_at_call 38; with_reducible refine cW.mono ?_; rintro e w' ⟨rfl, rfl⟩)
    go_ret2
    exact ⟨rfl, rfl⟩
  · rw [show wdN 1 = 3 by decide, show wdE 1 = 0 by decide] at cW
    rw [show ceN 1 = 9 by decide, show wdE 1 = 0 by decide]
    clear T
    go_enter Tryd.func23, Tryd.ntmps23
    go_wp2_with (go_at_call 38; with_reducible refine cW.mono ?_; rintro e w' ⟨rfl, rfl⟩)
    go_ret2
    exact ⟨rfl, rfl⟩
  · rw [show wdN 2 = 5 by decide, show wdE 2 = 0 by decide] at cW
    rw [show ceN 2 = 5 by decide, show wdE 2 = 0 by decide]
    clear T
    go_enter Tryd.func23, Tryd.ntmps23
    go_wp2_with (go_at_call 38; with_reducible refine cW.mono ?_; rintro e w' ⟨rfl, rfl⟩)
    go_ret2
    exact ⟨rfl, rfl⟩
  · rw [show wdN 3 = 7 by decide, show wdE 3 = 0 by decide] at cW
    rw [show ceN 3 = 4 by decide, show wdE 3 = 0 by decide]
    clear T
    go_enter Tryd.func23, Tryd.ntmps23
    go_wp2_with (go_at_call 38; with_reducible refine cW.mono ?_; rintro e w' ⟨rfl, rfl⟩)
    go_ret2
    exact ⟨rfl, rfl⟩
  · rw [show wdN 4 = 10 by decide, show wdE 4 = 0 by decide] at cW
    rw [show ceN 4 = 2 by decide, show wdE 4 = 0 by decide]
    clear T
    go_enter Tryd.func23, Tryd.ntmps23
    go_wp2_with (go_at_call 38; with_reducible refine cW.mono ?_; rintro e w' ⟨rfl, rfl⟩)
    go_ret2
    exact ⟨rfl, rfl⟩
  · rw [show wdN 5 = 15 by decide, show wdE 5 = 0 by decide] at cW
    rw [show ceN 5 = 1 by decide, show wdE 5 = 0 by decide]
    clear T
    go_enter Tryd.func23, Tryd.ntmps23
    go_wp2_with (go_at_call 38; with_reducible refine cW.mono ?_; rintro e w' ⟨rfl, rfl⟩)
    go_ret2
    exact ⟨rfl, rfl⟩
  · rw [wdN_out h, wdE_out h] at cW
    rw [ceN_out h, wdE_out h]
    clear T h
    go_enter Tryd.func23, Tryd.ntmps23
    go_wp2_with (go_at_call 38; with_reducible refine cW.mono ?_; rintro e w' ⟨rfl, rfl⟩)
    go_ret2
    exact ⟨rfl, rfl⟩

/-- Is an object large? -/
def laB (n : Int) : Bool := decide (120 < n ∧ n ≤ 2048)
theorem cell_any (c k : Int) (w : World) (T : Cws w) :
    Calls Tryd.prog 22 #[.int .i64 c, .int .i64 k] w fun e w' => e = .returned (.tuple #[.int .i64 (ctN c k), .int .i64 (ctE c k)]) ∧ w = w' := by
  have cW := cells_any c w T
  by_cases hk : CtOk c k
  · rw [(ct_t hk).1, (ct_t hk).2]
    have hc := hk.cls
    obtain ⟨h1, h2⟩ := hk
    rcases (show c = 0 ∨ c = 1 ∨ c = 2 ∨ c = 3 ∨ c = 4 ∨ c = 5 by omega) with rfl | rfl | rfl | rfl | rfl | rfl
    · have c0 : w.cell? ⟨0, 0, none⟩ = some (.int .i64 2) := T.spot 0 (by omega)
      rw [show ceN 0 = 14 by decide, show wdE 0 = 0 by decide] at cW
      rw [show wdN 0 = 2 by decide]
      rw [show ceN 0 = 14 by decide] at h2
      have w1 : IntKind.i64.wrap (k * 2) = k * 2 := IntWalk.i64_in _ ⟨by omega, by omega⟩
      have w2 : IntKind.i64.wrap (4 + k * 2) = 4 + k * 2 := IntWalk.i64_in _ ⟨by omega, by omega⟩
      clear T hc
      go_enter Tryd.func22, Tryd.ntmps22
      go_wp2_with (go_at_call 23; with_reducible refine cW.mono ?_; rintro e w' ⟨rfl, rfl⟩)
      go_ret2
      exact ⟨rfl, rfl⟩
    · have c0 : w.cell? ⟨0, 1, none⟩ = some (.int .i64 3) := T.spot 1 (by omega)
      rw [show ceN 1 = 9 by decide, show wdE 1 = 0 by decide] at cW
      rw [show wdN 1 = 3 by decide]
      rw [show ceN 1 = 9 by decide] at h2
      have w1 : IntKind.i64.wrap (k * 3) = k * 3 := IntWalk.i64_in _ ⟨by omega, by omega⟩
      have w2 : IntKind.i64.wrap (4 + k * 3) = 4 + k * 3 := IntWalk.i64_in _ ⟨by omega, by omega⟩
      clear T hc
      go_enter Tryd.func22, Tryd.ntmps22
      go_wp2_with (go_at_call 23; with_reducible refine cW.mono ?_; rintro e w' ⟨rfl, rfl⟩)
      go_ret2
      exact ⟨rfl, rfl⟩
    · have c0 : w.cell? ⟨0, 2, none⟩ = some (.int .i64 5) := T.spot 2 (by omega)
      rw [show ceN 2 = 5 by decide, show wdE 2 = 0 by decide] at cW
      rw [show wdN 2 = 5 by decide]
      rw [show ceN 2 = 5 by decide] at h2
      have w1 : IntKind.i64.wrap (k * 5) = k * 5 := IntWalk.i64_in _ ⟨by omega, by omega⟩
      have w2 : IntKind.i64.wrap (4 + k * 5) = 4 + k * 5 := IntWalk.i64_in _ ⟨by omega, by omega⟩
      clear T hc
      go_enter Tryd.func22, Tryd.ntmps22
      go_wp2_with (go_at_call 23; with_reducible refine cW.mono ?_; rintro e w' ⟨rfl, rfl⟩)
      go_ret2
      exact ⟨rfl, rfl⟩
    · have c0 : w.cell? ⟨0, 3, none⟩ = some (.int .i64 7) := T.spot 3 (by omega)
      rw [show ceN 3 = 4 by decide, show wdE 3 = 0 by decide] at cW
      rw [show wdN 3 = 7 by decide]
      rw [show ceN 3 = 4 by decide] at h2
      have w1 : IntKind.i64.wrap (k * 7) = k * 7 := IntWalk.i64_in _ ⟨by omega, by omega⟩
      have w2 : IntKind.i64.wrap (4 + k * 7) = 4 + k * 7 := IntWalk.i64_in _ ⟨by omega, by omega⟩
      clear T hc
      go_enter Tryd.func22, Tryd.ntmps22
      go_wp2_with (go_at_call 23; with_reducible refine cW.mono ?_; rintro e w' ⟨rfl, rfl⟩)
      go_ret2
      exact ⟨rfl, rfl⟩
    · have c0 : w.cell? ⟨0, 4, none⟩ = some (.int .i64 10) := T.spot 4 (by omega)
      rw [show ceN 4 = 2 by decide, show wdE 4 = 0 by decide] at cW
      rw [show wdN 4 = 10 by decide]
      rw [show ceN 4 = 2 by decide] at h2
      have w1 : IntKind.i64.wrap (k * 10) = k * 10 := IntWalk.i64_in _ ⟨by omega, by omega⟩
      have w2 : IntKind.i64.wrap (4 + k * 10) = 4 + k * 10 := IntWalk.i64_in _ ⟨by omega, by omega⟩
      clear T hc
      go_enter Tryd.func22, Tryd.ntmps22
      go_wp2_with (go_at_call 23; with_reducible refine cW.mono ?_; rintro e w' ⟨rfl, rfl⟩)
      go_ret2
      exact ⟨rfl, rfl⟩
    · have c0 : w.cell? ⟨0, 5, none⟩ = some (.int .i64 15) := T.spot 5 (by omega)
      rw [show ceN 5 = 1 by decide, show wdE 5 = 0 by decide] at cW
      rw [show wdN 5 = 15 by decide]
      rw [show ceN 5 = 1 by decide] at h2
      have w1 : IntKind.i64.wrap (k * 15) = k * 15 := IntWalk.i64_in _ ⟨by omega, by omega⟩
      have w2 : IntKind.i64.wrap (4 + k * 15) = 4 + k * 15 := IntWalk.i64_in _ ⟨by omega, by omega⟩
      clear T hc
      go_enter Tryd.func22, Tryd.ntmps22
      go_wp2_with (go_at_call 23; with_reducible refine cW.mono ?_; rintro e w' ⟨rfl, rfl⟩)
      go_ret2
      exact ⟨rfl, rfl⟩
  · rw [(ct_f hk).1, (ct_f hk).2]
    by_cases hc : 0 ≤ c ∧ c < 6
    · rw [wdE_in hc] at cW
      by_cases h1 : k < 0
      · clear T hc hk
        generalize ceN c = m at *
        go_enter Tryd.func22, Tryd.ntmps22
        go_wp2_with (go_at_call 23; with_reducible refine cW.mono ?_; rintro e w' ⟨rfl, rfl⟩)
        go_ret2
        exact ⟨rfl, rfl⟩
      · have h2 : ceN c ≤ k := by unfold CtOk at hk; omega
        clear T hc hk
        generalize ceN c = m at *
        go_enter Tryd.func22, Tryd.ntmps22
        go_wp2_with (go_at_call 23; with_reducible refine cW.mono ?_; rintro e w' ⟨rfl, rfl⟩)
        go_ret2
        exact ⟨rfl, rfl⟩
    · rw [wdE_out hc] at cW
      clear T hc hk
      generalize ceN c = m at *
      go_enter Tryd.func22, Tryd.ntmps22
      go_wp2_with (go_at_call 23; with_reducible refine cW.mono ?_; rintro e w' ⟨rfl, rfl⟩)
      go_ret2
      exact ⟨rfl, rfl⟩

end Go.Proofs.YtfnnelkipdajiaaDoor
