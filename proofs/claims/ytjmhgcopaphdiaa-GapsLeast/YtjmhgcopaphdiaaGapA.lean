/- gaps.roundUp, Need, fits, end, between, Right by their contracts. -/
import Derived.Test.YtjmhgcopaphdiaaGapR
import Derived.Test.YtjmhgcopaphdiaaLent
import Derived.Laws.ResultCell
import Derived.Lib.OthersKept
import Derived.WalkKit
import Derived.LoopTactic
namespace Go.Proofs.Ytjmhgcopaphdiaa
set_option maxRecDepth 100000
open Go.RowKit
set_option linter.unusedVariables false
set_option linter.unusedSimpArgs false
set_option maxRecDepth 100000

/-- A span in a block of its own. -/
def Spn.obj (s : Spn) : Obj := .cells #[.int .i64 s.pos, .int .i64 s.sz] 34
def BxP (w : World) (b : Nat) (s : Spn) : Prop := w.heap[b]? = some (.cells #[.int .i64 s.pos, .int .i64 s.sz] 34 (0, 0))
theorem BxP.lt {w : World} {b : Nat} {s : Spn} (h : BxP w b s) : b < w.heap.size := (Array.getElem?_eq_some_iff.1 h).1
theorem BxP.kept {w w' : World} {b : Nat} {s : Spn} (h : BxP w b s) (hb : Below w.heap.size w w') : BxP w' b s := (hb.block b h.lt).trans h
theorem BxP.off {F : Nat → Prop} {w w' : World} {b : Nat} {s : Spn} (h : BxP w b s) (ho : Off F w w') (hn : ¬ F b) : BxP w' b s := (ho.block b h.lt hn).trans h
theorem BxP.p2 {w : World} {b : Nat} {s : Spn} (h : BxP w b s) : P2 w b 0 s := by
  refine P2.of fun j u hu => ?_
  rw [cell_of_row w b (0 + j) _ 34 (0, 0) h, Nat.zero_add]
  simpa [Spn.cells] using hu
theorem BxP.cells {w : World} {b : Nat} {s : Spn} (h : BxP w b s) : w.cell? ⟨b, 0, none⟩ = some (.int .i64 s.pos) ∧ w.cell? ⟨b, 1, none⟩ = some (.int .i64 s.sz) ∧ w.frozen? ⟨b, 0, none⟩ = false ∧ w.frozen? ⟨b, 1, none⟩ = false :=
  ⟨h.p2.c0, by have := h.p2.c1; simpa using this, frozen_of_row w b 0 _ 34 h, frozen_of_row w b 1 _ 34 h⟩
theorem bxP_new (w : World) (s : Spn) : BxP (w.alloc s.obj) w.heap.size s := heap_alloc_new w _
theorem bxP_new' (w : World) (p z : Int) : BxP (w.alloc (.cells #[.int .i64 p, .int .i64 z] 34)) w.heap.size ⟨p, z⟩ := heap_alloc_new w _
theorem BxP.set {w : World} {b : Nat} {s : Spn} (h : BxP w b s) (t : Spn) : BxP ((w.setCell ⟨b, 0, none⟩ (.int .i64 t.pos)).setCell ⟨b, 1, none⟩ (.int .i64 t.sz)) b t := by
  have h1 := heap_setCell_same w b 0 _ 34 (.int .i64 t.pos) h
  have h2 := heap_setCell_same _ b 1 _ 34 (.int .i64 t.sz) h1
  exact h2

theorem roundUp_any (n k : Int) (w : World) (h0 : 0 ≤ n) (h1 : n ≤ 1000000) (k0 : 1 ≤ k) (k1 : k ≤ 100) :
    Calls Try.prog 21 #[.int .i64 n, .int .i64 k] w fun e w' => e = .returned (.int .i64 ((n + k - 1) / k * k)) ∧ w = w' := by
  have e1 : (n + k - 1).tdiv k = (n + k - 1) / k := Int.tdiv_eq_ediv_of_nonneg (by omega)
  have hm : 0 ≤ (n + k - 1) / k * k ∧ (n + k - 1) / k * k ≤ n + k - 1 := by
    refine ⟨Int.mul_nonneg (Int.ediv_nonneg (by omega) (by omega)) (by omega), ?_⟩
    have := Int.ediv_mul_add_emod (n + k - 1) k
    have := Int.emod_nonneg (n + k - 1) (show k ≠ 0 by omega)
    omega
  have hd : 0 ≤ (n + k - 1) / k ∧ (n + k - 1) / k ≤ n + k - 1 := ⟨Int.ediv_nonneg (by omega) (by omega), Int.ediv_le_self _ (by omega)⟩
  have w1 : IntKind.i64.wrap (n + k) = n + k := IntWalk.i64_in _ ⟨by omega, by omega⟩
  have w2 : IntKind.i64.wrap (n + k - 1) = n + k - 1 := IntWalk.i64_in _ ⟨by omega, by omega⟩
  have w3 : IntKind.i64.wrap ((n + k - 1).tdiv k) = (n + k - 1) / k := by rw [e1]; exact IntWalk.i64_in _ ⟨by omega, by omega⟩
  have w4 : IntKind.i64.wrap ((n + k - 1) / k * k) = (n + k - 1) / k * k := IntWalk.i64_in _ ⟨by omega, by omega⟩
  have hk0 : ¬ k = 0 := by omega
  go_enter Try.func21, Try.ntmps21
  go_wp2
  go_ret
  exact ⟨rfl, rfl⟩
theorem need_any (n : Int) (w : World) :
    Calls Try.prog 10 #[.int .i64 n] w fun e w' => e = .returned (.tuple #[.int .i64 (ndN n), .int .i64 (ndE n)]) ∧ w = w' := by
  by_cases h : 1 ≤ n ∧ n ≤ 2048
  · obtain ⟨e1, e2⟩ := nd_t h
    rw [e1, e2]
    have c1 := roundUp_any n 8 w (by omega) (by omega) (by omega) (by omega)
    obtain ⟨q, hq⟩ : ∃ q, (n + 7) / 8 = q := ⟨_, rfl⟩
    have c2 := roundUp_any (2 + q) 4 w (by omega) (by omega) (by omega) (by omega)
    have e3 : (n + 8 - 1) / 8 * 8 = q * 8 := by omega
    have e4 : (2 + q + 4 - 1) / 4 * 4 = (2 + (n + 7) / 8 + 3) / 4 * 4 := by rw [hq]; omega
    rw [e3] at c1
    rw [e4] at c2
    have e5 : (q * 8).tdiv 8 = q := by rw [Int.tdiv_eq_ediv_of_nonneg (by omega)]; omega
    have w5 : IntKind.i64.wrap ((q * 8).tdiv 8) = q := by rw [e5]; exact IntWalk.i64_in _ ⟨by omega, by omega⟩
    have w7 : q * 8 / 8 = q := by omega
    have q0 : 0 ≤ q := by omega
    have q1 : q ≤ 300 := by omega
    have w6 : IntKind.i64.wrap (2 + q) = 2 + q := IntWalk.i64_in _ ⟨by omega, by omega⟩
    have a1 : ¬ n < 1 := by omega
    have a2 : ¬ 2048 < n := by omega
    generalize (2 + (n + 7) / 8 + 3) / 4 * 4 = r at *
    clear h e1 e2 e3 e4 hq
    go_enter Try.func10, Try.ntmps10
    go_wp2_with (first
      | (go_at_call 21; with_reducible refine c1.mono ?_; rintro e w' ⟨rfl, rfl⟩)
      | (go_at_call 21; with_reducible refine c2.mono ?_; rintro e w' ⟨rfl, rfl⟩))
    go_ret2
    exact ⟨rfl, rfl⟩
  · obtain ⟨e1, e2⟩ := nd_f h
    rw [e1, e2]
    go_enter Try.func10, Try.ntmps10
    go_wp2
    all_goals first | (exfalso; omega) | (go_ret2; exact ⟨rfl, rfl⟩)
theorem fits_any (f t : Int) (s : Spn) (w : World) (h0 : 0 ≤ f) (t0 : 0 ≤ t) (t1 : t ≤ 2048) (hs : RgP s) :
    Calls Try.prog 25 #[.int .i64 f, .int .i64 t, .agg #[.int .i64 s.pos, .int .i64 s.sz]] w fun e w' => e = .returned (.bool (fitPB f t s)) ∧ Below w.heap.size w w' := by
  obtain ⟨p, z⟩ := s
  obtain ⟨hp, hz⟩ := hs
  unfold Rg at hp hz
  simp only at hp hz ⊢
  have hF : Hid (fitPB f t ⟨p, z⟩ = true ↔ f ≤ p ∧ p % 4 = 0 ∧ 4 ≤ z ∧ z ≤ t - p ∧ z % 4 = 0) := hid fitPB_iff
  have w1 : f ≤ p → IntKind.i64.wrap (t - p) = t - p := fun h => IntWalk.i64_in _ ⟨by omega, by omega⟩
  by_cases h1 : f ≤ p
  · have w1' := w1 h1
    go_enter Try.func25, Try.ntmps25
    go_wp2
    all_goals (go_ret; refine ⟨ret_bool ?_, (Below.refl _ w).alloc (Nat.le_refl _) _⟩)
    all_goals (rw [Bool.eq_iff_iff, hF.out]; clear hF w1; simp at *; omega)
  · go_enter Try.func25, Try.ntmps25
    go_wp2
    all_goals (go_ret; refine ⟨ret_bool ?_, (Below.refl _ w).alloc (Nat.le_refl _) _⟩)
    all_goals (rw [Bool.eq_iff_iff, hF.out]; clear hF w1; simp at *; omega)
theorem end_any (s : Spn) (w : World) (h0 : Rg (s.pos + s.sz)) :
    Calls Try.prog 26 #[.agg #[.int .i64 s.pos, .int .i64 s.sz]] w fun e w' => e = .returned (.int .i64 s.fin) ∧ Below w.heap.size w w' := by
  obtain ⟨p, z⟩ := s
  unfold Rg at h0
  simp only at h0 ⊢
  have w1 : IntKind.i64.wrap (p + z) = p + z := IntWalk.i64_in _ ⟨by omega, by omega⟩
  show Calls Try.prog 26 #[.agg #[.int .i64 p, .int .i64 z]] w fun e w' => e = .returned (.int .i64 (p + z)) ∧ Below w.heap.size w w'
  go_enter Try.func26, Try.ntmps26
  go_wp2
  go_ret
  exact ⟨rfl, (Below.refl _ w).alloc (Nat.le_refl _) _⟩
theorem between_any (a b : Int) (w : World) (h0 : Rg (b - a)) :
    Calls Try.prog 28 #[.int .i64 a, .int .i64 b] w fun e w' => e = .returned (.agg #[.int .i64 a, .int .i64 (b - a)]) ∧ Below w.heap.size w w' := by
  unfold Rg at h0
  have w1 : IntKind.i64.wrap (b - a) = b - a := IntWalk.i64_in _ ⟨by omega, by omega⟩
  go_enter Try.func28, Try.ntmps28
  go_wp2
  refine bodyPost_ret (v := .agg #[.int .i64 a, .int .i64 (b - a)]) (by simp [results, Try.results28, go_sem]) rfl ⟨rfl, ?_⟩
  exact (Below.refl _ w).alloc (Nat.le_refl _) _
end Go.Proofs.Ytjmhgcopaphdiaa
