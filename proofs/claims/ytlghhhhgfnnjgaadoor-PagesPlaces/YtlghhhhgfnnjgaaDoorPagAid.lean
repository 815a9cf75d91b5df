/- Aids of the walks of stage 13: '[]api.Object{}', '[]api.Object{o}', how many. -/
import Derived.Test.YtlghhhhgfnnjgaaDoorSmallPag
import Derived.Test.YtlghhhhgfnnjgaaDoorSame
namespace Go.Proofs.YtlghhhhgfnnjgaaDoor
set_option maxRecDepth 100000
open Go.RowKit
set_option linter.unusedVariables false
set_option linter.unusedSimpArgs false

theorem own_emptyJ (B : Nat) (w : World) (hB : B ≤ w.heap.size) : (w.alloc (.cells #[] 39)).ownsRow B 39 2 (.slice (some ⟨w.heap.size, 0, none⟩) 0 0) 0 (cellsP []) :=
  ⟨rfl, Or.inr ⟨w.heap.size, 0, #[], rfl, hB, heap_alloc_new w _, Nat.le_refl _, by decide, rfl, rfl⟩⟩
theorem ps_object (w : World) (k : Nat) (s : Spn) (hk : w.heap.size = k) (hs : RgP s) : Ps (w.alloc (.cells #[.int .i64 s.pos, .int .i64 s.sz] 39)) (some ⟨k, 0, none⟩) 1 1 [s] := by
  subst hk
  refine ⟨rfl, Nat.le_refl _, (by intro h; cases h), fun _ => ⟨w.heap.size, 0, rfl, by simp, fun i hi => ?_⟩, fun x hx => by rw [List.mem_singleton.1 hx]; exact hs⟩
  obtain rfl : i = 0 := by omega
  exact (bxJ_new w s).p2
theorem kzL_len (P : Int) (l : List Spn) : (kzL P l).length ≤ 64 := by
  by_cases h : RightO P l
  · rw [(kz_t h).1, kzN_len]; have := h.rng; omega
  · rw [(kz_f h).1]; simp
theorem mtL_len (P : Int) (l : List Spn) (p : Int) : (mtL P l p).length ≤ l.length := by
  by_cases h : RightO P l
  · rw [mt_t h]; exact mt_len l p l.length
  · rw [mt_f h]; simp
theorem pc_cases (P : Int) (l : List Spn) (z : Int) : (pcO P l z = none ∧ pcN P l z = 0 ∧ pcB P l z = false) ∨ (pcO P l z = some (pcN P l z) ∧ pcB P l z = true) := by
  cases e : pcO P l z with
  | none => exact Or.inl ⟨rfl, pc_f e⟩
  | some x => exact Or.inr ⟨by rw [(pc_t e).1], (pc_t e).2⟩
theorem own_at {w : World} {B : Nat} {bo : Option Addr} {m c : Nat} {zs : List Int} (h : Own .i64 3 B w bo m c zs) (hm : 0 < m) : ∃ g, bo = some ⟨g, 0, none⟩ := by
  obtain ⟨g, c', e⟩ := own_shape h.row hm
  simp only [Value.slice.injEq] at e
  exact ⟨g, e.1⟩
end Go.Proofs.YtlghhhhgfnnjgaaDoor
