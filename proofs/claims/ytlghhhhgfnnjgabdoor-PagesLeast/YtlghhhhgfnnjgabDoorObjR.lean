/- Slices of objects of the call's own, and an object in a block of its own (an object is read as a span is: pos its At, sz its Len). -/
import Derived.Test.YtlghhhhgfnnjgabDoorGapR
namespace Go.Proofs.YtlghhhhgfnnjgabDoor
set_option maxRecDepth 100000
open Go.RowKit
set_option linter.unusedVariables false

/-- A slice of n objects at the head of a row of the call's own, in a block from B on; or a nil one. -/
structure OwJ (B : Nat) (w : World) (ao : Option Addr) (n cap : Nat) (l : List Spn) : Prop where
  len : l.length = n
  row : w.ownsRow B 32 2 (.slice ao n cap) n (cellsP l)
  rg : ∀ s ∈ l, RgP s
theorem owJ_nil (B : Nat) (w : World) : OwJ B w none 0 0 [] := ⟨rfl, World.ownsRow_nil _ _ _ _, fun s hs => by cases hs⟩
theorem OwJ.below {B : Nat} {w w' : World} {ao : Option Addr} {n cap : Nat} {l : List Spn} (h : OwJ B w ao n cap l) (hb : Below w.heap.size w w') : OwJ B w' ao n cap l := by
  refine ⟨h.len, ⟨h.row.1, ?_⟩, h.rg⟩
  rcases h.row.2 with hn | ⟨g, cap', cur, hv, hg, hh, r⟩
  · exact Or.inl hn
  · refine Or.inr ⟨g, cap', cur, hv, hg, ?_, r⟩
    rw [hb.block g (Array.getElem?_eq_some_iff.1 hh).1]
    exact hh
theorem OwJ.mono {B B' : Nat} {w : World} {ao : Option Addr} {n cap : Nat} {l : List Spn} (h : OwJ B w ao n cap l) (hB : B' ≤ B) : OwJ B' w ao n cap l := by
  refine ⟨h.len, ⟨h.row.1, ?_⟩, h.rg⟩
  rcases h.row.2 with hn | ⟨g, cap', cur, hv, hg, r⟩
  · exact Or.inl hn
  · exact Or.inr ⟨g, cap', cur, hv, Nat.le_trans hB hg, r⟩
theorem OwJ.ps {B : Nat} {w : World} {ao : Option Addr} {n cap : Nat} {l : List Spn} (h : OwJ B w ao n cap l) : Ps w ao n cap l := by
  rcases h.row.2 with ⟨hv, hn⟩ | ⟨g, cap', cur, hv, hg, hh, hc, hm, hs, ht⟩
  · simp only [Value.slice.injEq] at hv
    obtain ⟨rfl, rfl, rfl⟩ := hv
    exact ⟨h.len, Nat.le_refl _, fun _ => rfl, fun h => absurd h (by omega), h.rg⟩
  · simp only [Value.slice.injEq] at hv
    obtain ⟨rfl, _, rfl⟩ := hv
    refine ⟨h.len, hc, (by intro h; cases h), fun _ => ⟨g, 0, rfl, (Array.getElem?_eq_some_iff.1 hh).1, fun i hi => P2.of fun j u hu => ?_⟩, h.rg⟩
    have hj : j < 2 := (List.getElem?_eq_some_iff.1 hu).1
    have hlen := h.len
    have h1 := cellsP_get l (i := i) (j := j) (by omega) hj
    rw [hu, ← ht, List.getElem?_take, if_pos (by omega), Array.getElem?_toList] at h1
    rw [Nat.zero_add, cell_of_row w g _ cur 32 (0, 0) hh]
    exact h1
theorem OwJ.cap_le {B : Nat} {w : World} {ao : Option Addr} {n cap : Nat} {l : List Spn} (h : OwJ B w ao n cap l) : n ≤ cap ∧ cap ≤ 9223372036854775807 := by
  rcases h.row.2 with ⟨hv, hn⟩ | ⟨g, cap', cur, hv, hg, hh, hc, hm, r⟩
  · simp only [Value.slice.injEq] at hv
    obtain ⟨rfl, rfl, rfl⟩ := hv
    exact ⟨Nat.le_refl _, by omega⟩
  · simp only [Value.slice.injEq] at hv
    obtain ⟨rfl, _, rfl⟩ := hv
    exact ⟨hc, by simpa [maxLen] using hm⟩
theorem OwJ.shape {B : Nat} {w : World} {ao : Option Addr} {n cap : Nat} {l : List Spn} (h : OwJ B w ao n cap l) (hn : 0 < n) : ∃ g, ao = some ⟨g, 0, none⟩ ∧ B ≤ g ∧ g < w.heap.size := by
  rcases h.row.2 with ⟨hv, h0⟩ | ⟨g, cap', cur, hv, hg, hh, _⟩
  · omega
  · simp only [Value.slice.injEq] at hv
    exact ⟨g, hv.1, hg, (Array.getElem?_eq_some_iff.1 hh).1⟩
theorem OwJ.off {F : Nat → Prop} {B : Nat} {w w' : World} {ao : Option Addr} {n cap : Nat} {l : List Spn} (h : OwJ B w ao n cap l) (ho : Off F w w') (hno : ∀ c, ao = some c → ¬ F c.block) : OwJ B w' ao n cap l := by
  refine ⟨h.len, ⟨h.row.1, ?_⟩, h.rg⟩
  rcases h.row.2 with hn | ⟨g, cap', cur, hv, hg, hh, r⟩
  · exact Or.inl hn
  · refine Or.inr ⟨g, cap', cur, hv, hg, ?_, r⟩
    have e1 : ao = some ⟨g, 0, none⟩ := by simp only [Value.slice.injEq] at hv; exact hv.1
    rw [ho.block g (Array.getElem?_eq_some_iff.1 hh).1 (hno _ e1)]
    exact hh
/-- An object laid into a row of the call's own. -/
theorem OwJ.set {B : Nat} {w : World} {g n cap : Nat} {l : List Spn} (h : OwJ B w (some ⟨g, 0, none⟩) n cap l) {k : Nat} (hk : k < n) {s : Spn} (hs : RgP s) :
    OwJ B ((w.setCell ⟨g, k * 2, none⟩ (.int .i64 s.pos)).setCell ⟨g, k * 2 + 1, none⟩ (.int .i64 s.sz)) (some ⟨g, 0, none⟩) n cap (l.set k s) := by
  have hl := h.len
  refine ⟨by rw [List.length_set]; exact hl, ?_, fun x hx => ?_⟩
  · rw [cellsP_set l k s (by omega)]
    exact ((h.row.stored _ _).1.stored _ _).1
  · rcases List.mem_or_eq_of_mem_set hx with hx | rfl
    · exact h.rg x hx
    · exact hs
theorem OwJ.free {B : Nat} {w : World} {g n cap : Nat} {l : List Spn} (h : OwJ B w (some ⟨g, 0, none⟩) n cap l) (j : Nat) : w.frozen? ⟨g, j, none⟩ = false := h.row.frozenAt j
theorem Tryd.info32 : (Tryd.prog.info? 32).map (fun i => (i.zero, i.size, i.bytes)) = some (some (.agg #[.int .i64 0, .int .i64 0]), 2, 16) := by kernel_rfl
/-- 'append(l, e...)': l of the call's own, or nil; e can be read, or nil. -/
theorem append_js {w : World} {ops : Array Oper} {rest : List Oper} {o : Oper} {a : Act} {Q : Exit → Act → World → Prop} (hgd : o.guard = none) (s x : Operand)
    (ho : o.op = .call { callee := .builtin .append, args := #[s, x], argTypes := #[33, 33] })
    (B : Nat) (v : Value) (n : Nat) (xs : List Spn) (hs : a.eval s = v) (hown : w.ownsRow B 32 2 v n (cellsP xs)) (hxr : ∀ s ∈ xs, RgP s)
    (so : Option Addr) (m c : Nat) (zs : List Spn) (hx : a.eval x = .slice so m c) (hsl : Ps w so m c zs) (hb : (n + m) * 16 ≤ 140737488355328) (hB : B ≤ w.heap.size)
    (h : ∀ bo c' w', OwJ B w' bo (n + m) c' (xs ++ zs) → w.grownBy w' v.ownBlock → wpList Tryd.prog ops Q rest (a.put o.dst (.slice bo (n + m) c')) w') : wpList Tryd.prog ops Q (o :: rest) a w := by
  obtain ⟨i0, hi, hz0, hz1, hz2⟩ := info_parts Tryd.info32
  have hxl : xs.length = n := by have := hown.1; rw [cellsP_length] at this; omega
  have hzl := hsl.len
  have hrr : ∀ s ∈ xs ++ zs, RgP s := fun s hs => by
    rcases List.mem_append.1 hs with hs | hs
    · exact hxr s hs
    · exact hsl.rg s hs
  cases so with
  | none =>
    obtain rfl : c = 0 := hsl.void rfl
    obtain rfl : m = 0 := by have := hsl.room; omega
    obtain rfl : zs = [] := List.eq_nil_of_length_eq_zero hzl
    obtain ⟨bo, c', rfl⟩ := own_sliceP hown
    refine wpList_append_own_none hgd s x 33 ho B 32 i0 2 Tryd.underlying33 hi _ n _ hs hown hx ?_
    have := h bo c' w ⟨by simpa using hxl, by simpa using hown, hrr⟩ (World.grownBy.refl _ _)
    simpa using this
  | some ad =>
    have hcs : ∀ j u, (cellsP zs)[j]? = some u → w.cell? (ad.add j) = some u := by
      intro j u hu
      have hj : 0 < m := by
        have := (List.getElem?_eq_some_iff.1 hu).1
        rw [cellsP_length] at this
        omega
      obtain ⟨b, off, e, _, _⟩ := hsl.here hj
      simp only [Option.some.injEq] at e
      subst e
      have := hsl.part 0 m (by omega) j u (by rw [List.drop_zero, List.take_of_length_le (by omega)]; exact hu)
      simpa using this
    refine wpList_append_own _ hgd s x 33 ho B 32 i0 (.agg #[.int .i64 0, .int .i64 0]) 2 16 Tryd.underlying33 hi hz0 hz1 hz2 rfl (by decide) v n _ hs hown ad m c (cellsP zs) hx (by rw [cellsP_length, hzl]) hcs (cellsP_one _) (by unfold maxLen; omega) (by omega) hB ?_
    intro v' w' hown' hgrow hnil
    obtain ⟨bo, c', rfl⟩ := own_sliceP hown'
    exact h bo c' w' ⟨by simp [hxl, hzl], by rw [cellsP_append]; exact hown', hrr⟩ hgrow

/-- An object in a block of its own. -/
def Spn.ob (s : Spn) : Obj := .cells #[.int .i64 s.pos, .int .i64 s.sz] 32
def BxJ (w : World) (b : Nat) (s : Spn) : Prop := w.heap[b]? = some (.cells #[.int .i64 s.pos, .int .i64 s.sz] 32 (0, 0))
theorem BxJ.lt {w : World} {b : Nat} {s : Spn} (h : BxJ w b s) : b < w.heap.size := (Array.getElem?_eq_some_iff.1 h).1
theorem BxJ.kept {w w' : World} {b : Nat} {s : Spn} (h : BxJ w b s) (hb : Below w.heap.size w w') : BxJ w' b s := (hb.block b h.lt).trans h
theorem BxJ.off {F : Nat → Prop} {w w' : World} {b : Nat} {s : Spn} (h : BxJ w b s) (ho : Off F w w') (hn : ¬ F b) : BxJ w' b s := (ho.block b h.lt hn).trans h
theorem BxJ.p2 {w : World} {b : Nat} {s : Spn} (h : BxJ w b s) : P2 w b 0 s := by
  refine P2.of fun j u hu => ?_
  rw [cell_of_row w b (0 + j) _ 32 (0, 0) h, Nat.zero_add]
  simpa [Spn.cells] using hu
theorem BxJ.cells {w : World} {b : Nat} {s : Spn} (h : BxJ w b s) : w.cell? ⟨b, 0, none⟩ = some (.int .i64 s.pos) ∧ w.cell? ⟨b, 1, none⟩ = some (.int .i64 s.sz) ∧ w.frozen? ⟨b, 0, none⟩ = false ∧ w.frozen? ⟨b, 1, none⟩ = false :=
  ⟨h.p2.c0, by have := h.p2.c1; simpa using this, frozen_of_row w b 0 _ 32 h, frozen_of_row w b 1 _ 32 h⟩
theorem bxJ_new (w : World) (s : Spn) : BxJ (w.alloc s.ob) w.heap.size s := heap_alloc_new w _
theorem bxJ_new' (w : World) (p z : Int) : BxJ (w.alloc (.cells #[.int .i64 p, .int .i64 z] 32)) w.heap.size ⟨p, z⟩ := heap_alloc_new w _
theorem BxJ.set {w : World} {b : Nat} {s : Spn} (h : BxJ w b s) (t : Spn) : BxJ ((w.setCell ⟨b, 0, none⟩ (.int .i64 t.pos)).setCell ⟨b, 1, none⟩ (.int .i64 t.sz)) b t := by
  have h1 := heap_setCell_same w b 0 _ 32 (.int .i64 t.pos) h
  have h2 := heap_setCell_same _ b 1 _ 32 (.int .i64 t.sz) h1
  exact h2
end Go.Proofs.YtlghhhhgfnnjgabDoor
