/- gaps.roundUp, Need, fits, end, between, Right by their contracts. -/
import Derived.Test.YtclkooaepfedaaaDoorGapR
import Derived.Test.YtclkooaepfedaaaDoorLent
import Derived.Laws.ResultCell
import Derived.Lib.OthersKept
import Derived.WalkKit
import Derived.LoopTactic
namespace Go.Proofs.YtclkooaepfedaaaDoor
set_option maxRecDepth 100000
open Go.RowKit
set_option linter.unusedVariables false
set_option linter.unusedSimpArgs false
set_option maxRecDepth 100000

/-- A span in a block of its own. -/
def Spn.obj (s : Spn) : Obj := .cells #[.int .i64 s.pos, .int .i64 s.sz] 64
def BxP (w : World) (b : Nat) (s : Spn) : Prop := w.heap[b]? = some (.cells #[.int .i64 s.pos, .int .i64 s.sz] 64 (0, 0))
theorem BxP.lt {w : World} {b : Nat} {s : Spn} (h : BxP w b s) : b < w.heap.size := (Array.getElem?_eq_some_iff.1 h).1
theorem BxP.kept {w w' : World} {b : Nat} {s : Spn} (h : BxP w b s) (hb : Below w.heap.size w w') : BxP w' b s := (hb.block b h.lt).trans h
theorem BxP.off {F : Nat → Prop} {w w' : World} {b : Nat} {s : Spn} (h : BxP w b s) (ho : Off F w w') (hn : ¬ F b) : BxP w' b s := (ho.block b h.lt hn).trans h
theorem BxP.p2 {w : World} {b : Nat} {s : Spn} (h : BxP w b s) : P2 w b 0 s := by
  refine P2.of fun j u hu => ?_
  rw [cell_of_row w b (0 + j) _ 64 (0, 0) h, Nat.zero_add]
  simpa [Spn.cells] using hu
theorem BxP.cells {w : World} {b : Nat} {s : Spn} (h : BxP w b s) : w.cell? ⟨b, 0, none⟩ = some (.int .i64 s.pos) ∧ w.cell? ⟨b, 1, none⟩ = some (.int .i64 s.sz) ∧ w.frozen? ⟨b, 0, none⟩ = false ∧ w.frozen? ⟨b, 1, none⟩ = false :=
  ⟨h.p2.c0, by have := h.p2.c1; simpa using this, frozen_of_row w b 0 _ 64 h, frozen_of_row w b 1 _ 64 h⟩
theorem bxP_new (w : World) (s : Spn) : BxP (w.alloc s.obj) w.heap.size s := heap_alloc_new w _
theorem bxP_new' (w : World) (p z : Int) : BxP (w.alloc (.cells #[.int .i64 p, .int .i64 z] 64)) w.heap.size ⟨p, z⟩ := heap_alloc_new w _
theorem BxP.set {w : World} {b : Nat} {s : Spn} (h : BxP w b s) (t : Spn) : BxP ((w.setCell ⟨b, 0, none⟩ (.int .i64 t.pos)).setCell ⟨b, 1, none⟩ (.int .i64 t.sz)) b t := by
  have h1 := heap_setCell_same w b 0 _ 64 (.int .i64 t.pos) h
  have h2 := heap_setCell_same _ b 1 _ 64 (.int .i64 t.sz) h1
  exact h2

theorem gfits_any (f t : Int) (s : Spn) (w : World) (h0 : 0 ≤ f) (t0 : 0 ≤ t) (t1 : t ≤ 2048) (hs : RgP s) :
    Calls Tryd.prog 54 #[.int .i64 f, .int .i64 t, .agg #[.int .i64 s.pos, .int .i64 s.sz]] w fun e w' => e = .returned (.bool (fitPB f t s)) ∧ Below w.heap.size w w' := by
  obtain ⟨p, z⟩ := s
  obtain ⟨hp, hz⟩ := hs
  unfold Rg at hp hz
  simp only at hp hz ⊢
  have hF : Hid (fitPB f t ⟨p, z⟩ = true ↔ f ≤ p ∧ p % 4 = 0 ∧ 4 ≤ z ∧ z ≤ t - p ∧ z % 4 = 0) := hid fitPB_iff
  have w1 : f ≤ p → IntKind.i64.wrap (t - p) = t - p := fun h => IntWalk.i64_in _ ⟨by omega, by omega⟩
  by_cases h1 : f ≤ p
  · have w1' := w1 h1
    go_enter Tryd.func54, Tryd.ntmps54
    go_wp2
    all_goals (go_ret; refine ⟨ret_bool ?_, (Below.refl _ w).alloc (Nat.le_refl _) _⟩)
    all_goals (rw [Bool.eq_iff_iff, hF.out]; clear hF w1; simp at *; omega)
  · go_enter Tryd.func54, Tryd.ntmps54
    go_wp2
    all_goals (go_ret; refine ⟨ret_bool ?_, (Below.refl _ w).alloc (Nat.le_refl _) _⟩)
    all_goals (rw [Bool.eq_iff_iff, hF.out]; clear hF w1; simp at *; omega)
theorem end_any (s : Spn) (w : World) (h0 : Rg (s.pos + s.sz)) :
    Calls Tryd.prog 55 #[.agg #[.int .i64 s.pos, .int .i64 s.sz]] w fun e w' => e = .returned (.int .i64 s.fin) ∧ Below w.heap.size w w' := by
  obtain ⟨p, z⟩ := s
  unfold Rg at h0
  simp only at h0 ⊢
  have w1 : IntKind.i64.wrap (p + z) = p + z := IntWalk.i64_in _ ⟨by omega, by omega⟩
  show Calls Tryd.prog 55 #[.agg #[.int .i64 p, .int .i64 z]] w fun e w' => e = .returned (.int .i64 (p + z)) ∧ Below w.heap.size w w'
  go_enter Tryd.func55, Tryd.ntmps55
  go_wp2
  go_ret
  exact ⟨rfl, (Below.refl _ w).alloc (Nat.le_refl _) _⟩
theorem between_any (a b : Int) (w : World) (h0 : Rg (b - a)) :
    Calls Tryd.prog 56 #[.int .i64 a, .int .i64 b] w fun e w' => e = .returned (.agg #[.int .i64 a, .int .i64 (b - a)]) ∧ Below w.heap.size w w' := by
  unfold Rg at h0
  have w1 : IntKind.i64.wrap (b - a) = b - a := IntWalk.i64_in _ ⟨by omega, by omega⟩
  go_enter Tryd.func56, Tryd.ntmps56
  go_wp2
  refine bodyPost_ret (v := .agg #[.int .i64 a, .int .i64 (b - a)]) (by simp [results, Tryd.results56, go_sem]) rfl ⟨rfl, ?_⟩
  exact (Below.refl _ w).alloc (Nat.le_refl _) _
end Go.Proofs.YtclkooaepfedaaaDoor
