/- The document's classes of cells (joistref12) by their contracts. -/
import Derived.Test.YtfnnelkipdajiaaDoorClsM
import Derived.Test.YtfnnelkipdajiaaDoorPart
import Derived.Test.YtfnnelkipdajiaaDoorLent
import Derived.WalkKit
import Derived.LoopTactic
import Derived.Deep.RegionHeld3
import Derived.Laws.AppendOwnNone
namespace Go.Proofs.YtfnnelkipdajiaaDoor
set_option maxRecDepth 100000
open Go.RowKit
set_option linter.unusedVariables false
set_option linter.unusedSimpArgs false
set_option maxRecDepth 100000

/-- The sizes stand in a block. -/
structure Sz (w : World) (b : Nat) : Prop where
  lt : b < w.heap.size
  spot : ∀ i, i < 6 → w.cell? ⟨b, i, none⟩ = some (.int .i64 (szL.getD i 0))
theorem Sz.below {w w' : World} {b : Nat} (h : Sz w b) (hb : Below w.heap.size w w') : Sz w' b :=
  ⟨Nat.lt_of_lt_of_le h.lt hb.size, fun i hi => by rw [World.cell?_of_block (a := ⟨b, i, none⟩) (hb.block b h.lt)]; exact h.spot i hi⟩
theorem Sz.c0 {w : World} {b : Nat} (h : Sz w b) : w.cell? ⟨b, 0, none⟩ = some (.int .i64 2) := h.spot 0 (by omega)
theorem Sz.c1 {w : World} {b : Nat} (h : Sz w b) : w.cell? ⟨b, 1, none⟩ = some (.int .i64 3) := h.spot 1 (by omega)
theorem Sz.c2 {w : World} {b : Nat} (h : Sz w b) : w.cell? ⟨b, 2, none⟩ = some (.int .i64 5) := h.spot 2 (by omega)
theorem Sz.c3 {w : World} {b : Nat} (h : Sz w b) : w.cell? ⟨b, 3, none⟩ = some (.int .i64 7) := h.spot 3 (by omega)
theorem Sz.c4 {w : World} {b : Nat} (h : Sz w b) : w.cell? ⟨b, 4, none⟩ = some (.int .i64 10) := h.spot 4 (by omega)
theorem Sz.c5 {w : World} {b : Nat} (h : Sz w b) : w.cell? ⟨b, 5, none⟩ = some (.int .i64 15) := h.spot 5 (by omega)
theorem sz_new (w : World) : Sz (w.alloc (.cells #[.int .i64 2, .int .i64 3, .int .i64 5, .int .i64 7, .int .i64 10, .int .i64 15] 3)) w.heap.size := by
  refine ⟨by simp, fun i hi => ?_⟩
  rw [cell_of_row _ w.heap.size i #[.int .i64 2, .int .i64 3, .int .i64 5, .int .i64 7, .int .i64 10, .int .i64 15] 3 (0, 0) (heap_alloc_new w _)]
  rcases (show i = 0 ∨ i = 1 ∨ i = 2 ∨ i = 3 ∨ i = 4 ∨ i = 5 by omega) with rfl | rfl | rfl | rfl | rfl | rfl <;> rfl
theorem szL_le {k : Nat} (hk : k < 6) : 2 ≤ szL.getD k 0 ∧ szL.getD k 0 ≤ 15 := by
  rcases (show k = 0 ∨ k = 1 ∨ k = 2 ∨ k = 3 ∨ k = 4 ∨ k = 5 by omega) with rfl | rfl | rfl | rfl | rfl | rfl <;> decide

theorem sizes_any (w : World) :
    Calls Tryd.prog 41 #[] w fun e w' => e = .returned (.slice (some ⟨w.heap.size, 0, none⟩) 6 6) ∧ Sz w' w.heap.size ∧ Below w.heap.size w w' := by
  have HS := hid (sz_new w)
  have hbA : Hid (Below w.heap.size w (w.alloc (.cells #[.int .i64 2, .int .i64 3, .int .i64 5, .int .i64 7, .int .i64 10, .int .i64 15] 3))) := hid ((Below.refl _ _).alloc (Nat.le_refl _) _)
  go_enter Tryd.func41, Tryd.ntmps41
  go_wp2
  go_ret
  exact ⟨rfl, HS.out, hbA.out⟩

theorem rwords_any (c : Int) (w : World) :
    Calls Tryd.prog 28 #[.int .i64 c] w fun e w' => e = .returned (.tuple #[.int .i64 (wdN c), .int .i64 (wdE c)]) ∧ Below w.heap.size w w' := by
  rcases cls_cases c with (rfl | rfl | rfl | rfl | rfl | rfl) | h
  · rw [show wdN 0 = 2 by decide, show wdE 0 = 0 by decide]
    go_enter Tryd.func28, Tryd.ntmps28
    go_wp2_with (go_at_call 41; with_reducible refine (sizes_any _).mono ?_; rintro e w1 ⟨rfl, hs, hb1⟩; have c0 := hs.c0; clear hs)
    go_ret2
    exact ⟨rfl, hb1⟩
  · rw [show wdN 1 = 3 by decide, show wdE 1 = 0 by decide]
    go_enter Tryd.func28, Tryd.ntmps28
    go_wp2_with (go_at_call 41; with_reducible refine (sizes_any _).mono ?_; rintro e w1 ⟨rfl, hs, hb1⟩; have c0 := hs.c1; clear hs)
    go_ret2
    exact ⟨rfl, hb1⟩
  · rw [show wdN 2 = 5 by decide, show wdE 2 = 0 by decide]
    go_enter Tryd.func28, Tryd.ntmps28
    go_wp2_with (go_at_call 41; with_reducible refine (sizes_any _).mono ?_; rintro e w1 ⟨rfl, hs, hb1⟩; have c0 := hs.c2; clear hs)
    go_ret2
    exact ⟨rfl, hb1⟩
  · rw [show wdN 3 = 7 by decide, show wdE 3 = 0 by decide]
    go_enter Tryd.func28, Tryd.ntmps28
    go_wp2_with (go_at_call 41; with_reducible refine (sizes_any _).mono ?_; rintro e w1 ⟨rfl, hs, hb1⟩; have c0 := hs.c3; clear hs)
    go_ret2
    exact ⟨rfl, hb1⟩
  · rw [show wdN 4 = 10 by decide, show wdE 4 = 0 by decide]
    go_enter Tryd.func28, Tryd.ntmps28
    go_wp2_with (go_at_call 41; with_reducible refine (sizes_any _).mono ?_; rintro e w1 ⟨rfl, hs, hb1⟩; have c0 := hs.c4; clear hs)
    go_ret2
    exact ⟨rfl, hb1⟩
  · rw [show wdN 5 = 15 by decide, show wdE 5 = 0 by decide]
    go_enter Tryd.func28, Tryd.ntmps28
    go_wp2_with (go_at_call 41; with_reducible refine (sizes_any _).mono ?_; rintro e w1 ⟨rfl, hs, hb1⟩; have c0 := hs.c5; clear hs)
    go_ret2
    exact ⟨rfl, hb1⟩
  · rw [wdN_out h, wdE_out h]
    by_cases h1 : c < 0
    · clear h
      go_enter Tryd.func28, Tryd.ntmps28
      go_wp2_with (go_at_call 41; with_reducible refine (sizes_any _).mono ?_; rintro e w1 ⟨rfl, hs, hb1⟩; clear hs)
      go_ret2
      exact ⟨rfl, hb1⟩
    · have h2 : 6 ≤ c := by omega
      clear h
      go_enter Tryd.func28, Tryd.ntmps28
      go_wp2_with (go_at_call 41; with_reducible refine (sizes_any _).mono ?_; rintro e w1 ⟨rfl, hs, hb1⟩; clear hs)
      go_ret2
      exact ⟨rfl, hb1⟩

theorem rcells_any (c : Int) (w : World) :
    Calls Tryd.prog 32 #[.int .i64 c] w fun e w' => e = .returned (.tuple #[.int .i64 (ceN c), .int .i64 (wdE c)]) ∧ Below w.heap.size w w' := by
  have cW := rwords_any c w
  rcases cls_cases c with (rfl | rfl | rfl | rfl | rfl | rfl) | h
  · rw [show wdN 0 = 2 by decide, show wdE 0 = 0 by decide] at cW
    rw [show ceN 0 = 14 by decide, show wdE 0 = 0 by decide]
    go_enter Tryd.func32, Tryd.ntmps32
    go_wp2_with (go_at_call 28; with_reducible refine cW.mono ?_; rintro e w1 ⟨rfl, hb1⟩)
    go_ret2
    exact ⟨rfl, hb1⟩
  · rw [show wdN 1 = 3 by decide, show wdE 1 = 0 by decide] at cW
    rw [show ceN 1 = 9 by decide, show wdE 1 = 0 by decide]
    go_enter Tryd.func32, Tryd.ntmps32
    go_wp2_with (go_at_call 28; with_reducible refine cW.mono ?_; rintro e w1 ⟨rfl, hb1⟩)
    go_ret2
    exact ⟨rfl, hb1⟩
  · rw [show wdN 2 = 5 by decide, show wdE 2 = 0 by decide] at cW
    rw [show ceN 2 = 5 by decide, show wdE 2 = 0 by decide]
    go_enter Tryd.func32, Tryd.ntmps32
    go_wp2_with (go_at_call 28; with_reducible refine cW.mono ?_; rintro e w1 ⟨rfl, hb1⟩)
    go_ret2
    exact ⟨rfl, hb1⟩
  · rw [show wdN 3 = 7 by decide, show wdE 3 = 0 by decide] at cW
    rw [show ceN 3 = 4 by decide, show wdE 3 = 0 by decide]
    go_enter Tryd.func32, Tryd.ntmps32
    go_wp2_with (go_at_call 28; with_reducible refine cW.mono ?_; rintro e w1 ⟨rfl, hb1⟩)
    go_ret2
    exact ⟨rfl, hb1⟩
  · rw [show wdN 4 = 10 by decide, show wdE 4 = 0 by decide] at cW
    rw [show ceN 4 = 2 by decide, show wdE 4 = 0 by decide]
    go_enter Tryd.func32, Tryd.ntmps32
    go_wp2_with (go_at_call 28; with_reducible refine cW.mono ?_; rintro e w1 ⟨rfl, hb1⟩)
    go_ret2
    exact ⟨rfl, hb1⟩
  · rw [show wdN 5 = 15 by decide, show wdE 5 = 0 by decide] at cW
    rw [show ceN 5 = 1 by decide, show wdE 5 = 0 by decide]
    go_enter Tryd.func32, Tryd.ntmps32
    go_wp2_with (go_at_call 28; with_reducible refine cW.mono ?_; rintro e w1 ⟨rfl, hb1⟩)
    go_ret2
    exact ⟨rfl, hb1⟩
  · rw [wdN_out h, wdE_out h] at cW
    rw [ceN_out h, wdE_out h]
    clear h
    go_enter Tryd.func32, Tryd.ntmps32
    go_wp2_with (go_at_call 28; with_reducible refine cW.mono ?_; rintro e w1 ⟨rfl, hb1⟩)
    go_ret2
    exact ⟨rfl, hb1⟩

theorem rcell_any (c k : Int) (w : World) :
    Calls Tryd.prog 30 #[.int .i64 c, .int .i64 k] w fun e w' => e = .returned (.tuple #[.int .i64 (ctN c k), .int .i64 (ctE c k)]) ∧ Below w.heap.size w w' := by
  have cC := rcells_any c w
  have cW := fun w' => rwords_any c w'
  by_cases hk : CtOk c k
  · rw [(ct_t hk).1, (ct_t hk).2]
    have hc := hk.cls
    rw [wdE_in hc] at cC cW
    obtain ⟨v1, v2, m1, m2, f1, f2⟩ := cls_in hc
    have q0 : 0 ≤ wdN c * k := Int.mul_nonneg (by omega) hk.1
    have q1 := Int.mul_le_mul_of_nonneg_left (show k + 1 ≤ ceN c from hk.2) (show 0 ≤ wdN c by omega)
    rw [Int.mul_add, Int.mul_one] at q1
    rw [Int.mul_comm k]
    have x1 : IntKind.i64.wrap (wdN c * k) = wdN c * k := IntWalk.i64_in _ ⟨by omega, by omega⟩
    have x2 : IntKind.i64.wrap (4 + wdN c * k) = 4 + wdN c * k := IntWalk.i64_in _ ⟨by omega, by omega⟩
    obtain ⟨h1, h2⟩ := hk
    clear q0 q1 f1 f2 v1 v2 m1 m2 hc
    generalize ceN c = m at *
    generalize wdN c = v at *
    go_enter Tryd.func30, Tryd.ntmps30
    go_wp2_with (first
      | (go_at_call 32; with_reducible refine cC.mono ?_; rintro e w1 ⟨rfl, hb1⟩)
      | (go_at_call 28; with_reducible refine (cW _).mono ?_; rintro e w2 ⟨rfl, hb2⟩))
    go_ret2
    exact ⟨rfl, next hb1 hb2⟩
  · rw [(ct_f hk).1, (ct_f hk).2]
    clear cW
    by_cases hc : 0 ≤ c ∧ c < 6
    · rw [wdE_in hc] at cC
      by_cases h1 : k < 0
      · clear hc hk
        generalize ceN c = m at *
        go_enter Tryd.func30, Tryd.ntmps30
        go_wp2_with (go_at_call 32; with_reducible refine cC.mono ?_; rintro e w1 ⟨rfl, hb1⟩)
        go_ret2
        exact ⟨rfl, hb1⟩
      · have h2 : ceN c ≤ k := by unfold CtOk at hk; omega
        clear hc hk
        generalize ceN c = m at *
        go_enter Tryd.func30, Tryd.ntmps30
        go_wp2_with (go_at_call 32; with_reducible refine cC.mono ?_; rintro e w1 ⟨rfl, hb1⟩)
        go_ret2
        exact ⟨rfl, hb1⟩
    · rw [wdE_out hc] at cC
      clear hc hk
      generalize ceN c = m at *
      go_enter Tryd.func30, Tryd.ntmps30
      go_wp2_with (go_at_call 32; with_reducible refine cC.mono ?_; rintro e w1 ⟨rfl, hb1⟩)
      go_ret2
      exact ⟨rfl, hb1⟩

end Go.Proofs.YtfnnelkipdajiaaDoor
