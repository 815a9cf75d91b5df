/- BlkR · ExtR · BoxX: these texts, one behind another. -/
import Derived.Test.YthkloknongkpdaaMtA
import Derived.Test.YthkloknongkpdaaPart
import Derived.Test.YthkloknongkpdaaOff
import Derived.Test.YthkloknongkpdaaInfo
import Derived.Laws.AppendOwnNone
/- Slices of blocks (three numbers each) that can be read. -/
namespace Go.Proofs.Ythkloknongkpdaa
set_option maxRecDepth 100000
open Go.RowKit
set_option linter.unusedVariables false

def Blk.cells (s : Blk) : List Value := [.int .i64 s.pos, .int .i64 s.sz, .int .i64 s.ix]
def cellsB (l : List Blk) : List Value := l.flatMap Blk.cells
theorem Blk.cells_len (s : Blk) : s.cells.length = 3 := rfl
theorem cellsB_length (l : List Blk) : (cellsB l).length = l.length * 3 := by
  induction l with
  | nil => rfl
  | cons a r ih => simp only [cellsB, List.flatMap_cons, List.length_append, List.length_cons, Blk.cells_len]; simp only [cellsB] at ih; omega
theorem cellsB_append (a b : List Blk) : cellsB (a ++ b) = cellsB a ++ cellsB b := by simp [cellsB]
theorem cellsB_get (l : List Blk) {i j : Nat} (h : i < l.length) (hj : j < 3) : (cellsB l)[i * 3 + j]? = (ba l i).cells[j]? := by
  induction l generalizing i with
  | nil => simp at h
  | cons a r ih =>
    cases i with
    | zero =>
      simp only [cellsB, List.flatMap_cons]
      rw [Nat.zero_mul, Nat.zero_add, List.getElem?_append_left (by rw [Blk.cells_len]; exact hj)]
      rfl
    | succ i =>
      have := ih (i := i) (by simpa using h)
      simp only [cellsB, List.flatMap_cons] at this ⊢
      rw [List.getElem?_append_right (by rw [Blk.cells_len]; omega), Blk.cells_len, show (i + 1) * 3 + j - 3 = i * 3 + j by omega, this]
      rfl
theorem cellsB_one (l : List Blk) : ∀ u ∈ cellsB l, u.oneCell' = true := by
  intro u hu
  simp only [cellsB, List.mem_flatMap] at hu
  obtain ⟨s, _, hs⟩ := hu
  simp only [Blk.cells, List.mem_cons, List.not_mem_nil, or_false] at hs
  rcases hs with rfl | rfl | rfl <;> rfl

/-- Three cells are a block. -/
structure B3 (w : World) (b o : Nat) (s : Blk) : Prop where
  c0 : w.cell? ⟨b, o, none⟩ = some (.int .i64 s.pos)
  c1 : w.cell? ⟨b, o + 1, none⟩ = some (.int .i64 s.sz)
  c2 : w.cell? ⟨b, o + 2, none⟩ = some (.int .i64 s.ix)
theorem B3.of {w : World} {b o : Nat} {s : Blk} (h : ∀ j u, s.cells[j]? = some u → w.cell? ⟨b, o + j, none⟩ = some u) : B3 w b o s := ⟨h 0 _ rfl, h 1 _ rfl, h 2 _ rfl⟩
theorem B3.all {w : World} {b o : Nat} {s : Blk} (h : B3 w b o s) : ∀ j u, s.cells[j]? = some u → w.cell? ⟨b, o + j, none⟩ = some u := by
  intro j u hu
  match j, hu with
  | 0, hu => simp [Blk.cells] at hu; subst hu; exact h.c0
  | 1, hu => simp [Blk.cells] at hu; subst hu; exact h.c1
  | 2, hu => simp [Blk.cells] at hu; subst hu; exact h.c2
  | j + 3, hu => simp [Blk.cells] at hu
theorem B3.same {w w' : World} {b o : Nat} {s : Blk} (h : B3 w b o s) (e : w'.heap[b]? = w.heap[b]?) : B3 w' b o s := by
  refine B3.of fun j u hu => ?_
  rw [World.cell?_of_block (w := w) (a := ⟨b, o + j, none⟩) e]
  exact h.all j u hu
theorem B3.below {w w' : World} {b o : Nat} {s : Blk} (h : B3 w b o s) (hb : Below w.heap.size w w') : B3 w' b o s :=
  h.same (hb.block b (by have := World.block_lt_of_cell? w _ h.c0; exact this))

/-- A slice of n blocks that can be read. -/
structure Bs (w : World) (ao : Option Addr) (n cap : Nat) (l : List Blk) : Prop where
  len : l.length = n
  room : n ≤ cap
  void : ao = none → cap = 0
  here : 0 < n → ∃ b off, ao = some ⟨b, off, none⟩ ∧ b < w.heap.size ∧ ∀ i, i < n → B3 w b (off + i * 3) (ba l i)
  rg : ∀ s ∈ l, RgB s
theorem Bs.rgs {w : World} {ao : Option Addr} {n cap : Nat} {l : List Blk} (h : Bs w ao n cap l) {i : Nat} (hi : i < n) : RgB (ba l i) := h.rg _ (ba_mem (by rw [h.len]; exact hi))
theorem Bs.below {w w' : World} {ao : Option Addr} {n cap : Nat} {l : List Blk} (h : Bs w ao n cap l) (hb : Below w.heap.size w w') : Bs w' ao n cap l := by
  refine ⟨h.len, h.room, h.void, fun hn => ?_, h.rg⟩
  obtain ⟨b, off, e, hlt, hc⟩ := h.here hn
  exact ⟨b, off, e, Nat.lt_of_lt_of_le hlt hb.size, fun i hi => (hc i hi).below hb⟩
theorem Bs.off {F : Nat → Prop} {w w' : World} {ao : Option Addr} {n cap : Nat} {l : List Blk} (h : Bs w ao n cap l) (ho : Off F w w') (hno : 0 < n → ∀ c, ao = some c → ¬ F c.block) : Bs w' ao n cap l := by
  refine ⟨h.len, h.room, h.void, fun hn => ?_, h.rg⟩
  obtain ⟨b, off, e, hlt, hc⟩ := h.here hn
  exact ⟨b, off, e, Nat.lt_of_lt_of_le hlt ho.size, fun i hi => (hc i hi).same (ho.block b hlt (hno hn _ e))⟩
/-- A span of one, at a later world. -/
theorem Bs.at {w wr : World} {b off n cap : Nat} {l : List Blk} (h : Bs w (some ⟨b, off, none⟩) n cap l) (hb : Below w.heap.size w wr) {i : Nat} (hi : i < n) : B3 wr b (off + i * 3) (ba l i) := by
  obtain ⟨b', o', e, _, hc⟩ := (h.below hb).here (by omega)
  simp only [Option.some.injEq, Addr.mk.injEq, and_true] at e
  obtain ⟨rfl, rfl⟩ := e
  exact hc i hi
theorem bs_nil (w : World) : Bs w none 0 0 [] := ⟨rfl, Nat.le_refl _, fun _ => rfl, fun h => absurd h (by omega), fun s hs => by cases hs⟩
/-- The cells of a part of one. -/
theorem Bs.part {w : World} {b off n cap : Nat} {l : List Blk} (h : Bs w (some ⟨b, off, none⟩) n cap l) (i m : Nat) (hm : i + m ≤ n) :
    ∀ j u, (cellsB ((l.drop i).take m))[j]? = some u → w.cell? ((⟨b, off + i * 3, none⟩ : Addr).add j) = some u := by
  intro j u hu
  have hlen := h.len
  have hl : ((l.drop i).take m).length = m := by simp; omega
  have hj : j < m * 3 := by
    have := (List.getElem?_eq_some_iff.1 hu).1
    rw [cellsB_length, hl] at this
    exact this
  have hs := h.at (Below.refl _ _) (i := i + j / 3) (by omega)
  have hg := cellsB_get ((l.drop i).take m) (i := j / 3) (j := j % 3) (by omega) (Nat.mod_lt _ (by omega))
  rw [show j / 3 * 3 + j % 3 = j by omega, hu] at hg
  have e : ba ((l.drop i).take m) (j / 3) = ba l (i + j / 3) := by
    simp only [ba, List.getD]
    rw [List.getElem?_take, if_pos (by omega), List.getElem?_drop]
  rw [e] at hg
  have := hs.all (j % 3) u hg.symm
  rw [Addr.add_lit]
  rw [show off + (i + j / 3) * 3 + j % 3 = off + i * 3 + j by omega] at this
  exact this

theorem cellsB_set (l : List Blk) (k : Nat) (s : Blk) (h : k < l.length) : cellsB (l.set k s) = (((cellsB l).set (k * 3) (.int .i64 s.pos)).set (k * 3 + 1) (.int .i64 s.sz)).set (k * 3 + 2) (.int .i64 s.ix) := by
  apply List.ext_getElem?
  intro i
  by_cases hi : i < l.length * 3
  · have g1 := cellsB_get (l.set k s) (i := i / 3) (j := i % 3) (by rw [List.length_set]; omega) (Nat.mod_lt _ (by omega))
    have g2 := cellsB_get l (i := i / 3) (j := i % 3) (by omega) (Nat.mod_lt _ (by omega))
    rw [show i / 3 * 3 + i % 3 = i by omega] at g1 g2
    rw [g1]
    simp only [List.getElem?_set, List.length_set, cellsB_length]
    by_cases e : i / 3 = k
    · rw [e, ba_set_same l k s h]
      rcases (show i % 3 = 0 ∨ i % 3 = 1 ∨ i % 3 = 2 by omega) with e1 | e1 | e1
      · rw [e1, if_neg (by omega), if_neg (by omega), if_pos (by omega), if_pos (by omega)]; rfl
      · rw [e1, if_neg (by omega), if_pos (by omega), if_pos (by omega)]; rfl
      · rw [e1, if_pos (by omega), if_pos (by omega)]; rfl
    · rw [ba_set_other l k _ s (Ne.symm e), if_neg (by omega), if_neg (by omega), if_neg (by omega), g2]
  · rw [List.getElem?_eq_none (by rw [cellsB_length, List.length_set]; omega), List.getElem?_eq_none (by simp [cellsB_length]; omega)]
theorem own_sliceB {w : World} {B : Nat} {e : TypeId} {s : Nat} {v : Value} {n : Nat} {xs : List Value} (h : w.ownsRow B e s v n xs) : ∃ bo c, v = .slice bo n c := by
  rcases h.2 with ⟨h0, hn⟩ | ⟨g, cap, cur, rfl, _⟩
  · subst hn
    exact ⟨none, 0, h0⟩
  · exact ⟨_, _, rfl⟩
end Go.Proofs.Ythkloknongkpdaa
/- Slices of extents: one of the call's own. -/
namespace Go.Proofs.Ythkloknongkpdaa
set_option maxRecDepth 100000
open Go.RowKit
set_option linter.unusedVariables false

/-- A slice of n extents at the head of a row of the call's own, in a block from B on; or a nil one. -/
structure OwX (B : Nat) (w : World) (ao : Option Addr) (n cap : Nat) (l : List Blk) : Prop where
  len : l.length = n
  row : w.ownsRow B 42 3 (.slice ao n cap) n (cellsB l)
  rg : ∀ s ∈ l, RgB s
theorem owX_nil (B : Nat) (w : World) : OwX B w none 0 0 [] := ⟨rfl, World.ownsRow_nil _ _ _ _, fun s hs => by cases hs⟩
theorem OwX.below {B : Nat} {w w' : World} {ao : Option Addr} {n cap : Nat} {l : List Blk} (h : OwX B w ao n cap l) (hb : Below w.heap.size w w') : OwX B w' ao n cap l := by
  refine ⟨h.len, ⟨h.row.1, ?_⟩, h.rg⟩
  rcases h.row.2 with hn | ⟨g, cap', cur, hv, hg, hh, r⟩
  · exact Or.inl hn
  · refine Or.inr ⟨g, cap', cur, hv, hg, ?_, r⟩
    rw [hb.block g (Array.getElem?_eq_some_iff.1 hh).1]
    exact hh
theorem OwX.mono {B B' : Nat} {w : World} {ao : Option Addr} {n cap : Nat} {l : List Blk} (h : OwX B w ao n cap l) (hB : B' ≤ B) : OwX B' w ao n cap l := by
  refine ⟨h.len, ⟨h.row.1, ?_⟩, h.rg⟩
  rcases h.row.2 with hn | ⟨g, cap', cur, hv, hg, r⟩
  · exact Or.inl hn
  · exact Or.inr ⟨g, cap', cur, hv, Nat.le_trans hB hg, r⟩
theorem OwX.bs {B : Nat} {w : World} {ao : Option Addr} {n cap : Nat} {l : List Blk} (h : OwX B w ao n cap l) : Bs w ao n cap l := by
  rcases h.row.2 with ⟨hv, hn⟩ | ⟨g, cap', cur, hv, hg, hh, hc, hm, hs, ht⟩
  · simp only [Value.slice.injEq] at hv
    obtain ⟨rfl, rfl, rfl⟩ := hv
    exact ⟨h.len, Nat.le_refl _, fun _ => rfl, fun h => absurd h (by omega), h.rg⟩
  · simp only [Value.slice.injEq] at hv
    obtain ⟨rfl, _, rfl⟩ := hv
    refine ⟨h.len, hc, (by intro h; cases h), fun _ => ⟨g, 0, rfl, (Array.getElem?_eq_some_iff.1 hh).1, fun i hi => B3.of fun j u hu => ?_⟩, h.rg⟩
    have hj : j < 3 := (List.getElem?_eq_some_iff.1 hu).1
    have hlen := h.len
    have h1 := cellsB_get l (i := i) (j := j) (by omega) hj
    rw [hu, ← ht, List.getElem?_take, if_pos (by omega), Array.getElem?_toList] at h1
    rw [Nat.zero_add, cell_of_row w g _ cur 42 (0, 0) hh]
    exact h1
theorem OwX.cap_le {B : Nat} {w : World} {ao : Option Addr} {n cap : Nat} {l : List Blk} (h : OwX B w ao n cap l) : n ≤ cap ∧ cap ≤ 9223372036854775807 := by
  rcases h.row.2 with ⟨hv, hn⟩ | ⟨g, cap', cur, hv, hg, hh, hc, hm, r⟩
  · simp only [Value.slice.injEq] at hv
    obtain ⟨rfl, rfl, rfl⟩ := hv
    exact ⟨Nat.le_refl _, by omega⟩
  · simp only [Value.slice.injEq] at hv
    obtain ⟨rfl, _, rfl⟩ := hv
    exact ⟨hc, by simpa [maxLen] using hm⟩
theorem OwX.shape {B : Nat} {w : World} {ao : Option Addr} {n cap : Nat} {l : List Blk} (h : OwX B w ao n cap l) (hn : 0 < n) : ∃ g, ao = some ⟨g, 0, none⟩ ∧ B ≤ g ∧ g < w.heap.size := by
  rcases h.row.2 with ⟨hv, h0⟩ | ⟨g, cap', cur, hv, hg, hh, _⟩
  · omega
  · simp only [Value.slice.injEq] at hv
    exact ⟨g, hv.1, hg, (Array.getElem?_eq_some_iff.1 hh).1⟩
theorem OwX.off {F : Nat → Prop} {B : Nat} {w w' : World} {ao : Option Addr} {n cap : Nat} {l : List Blk} (h : OwX B w ao n cap l) (ho : Off F w w') (hno : ∀ c, ao = some c → ¬ F c.block) : OwX B w' ao n cap l := by
  refine ⟨h.len, ⟨h.row.1, ?_⟩, h.rg⟩
  rcases h.row.2 with hn | ⟨g, cap', cur, hv, hg, hh, r⟩
  · exact Or.inl hn
  · refine Or.inr ⟨g, cap', cur, hv, hg, ?_, r⟩
    have e1 : ao = some ⟨g, 0, none⟩ := by simp only [Value.slice.injEq] at hv; exact hv.1
    rw [ho.block g (Array.getElem?_eq_some_iff.1 hh).1 (hno _ e1)]
    exact hh
theorem OwX.free {B : Nat} {w : World} {g n cap : Nat} {l : List Blk} (h : OwX B w (some ⟨g, 0, none⟩) n cap l) (j : Nat) : w.frozen? ⟨g, j, none⟩ = false := h.row.frozenAt j
theorem Try.info42 : (Try.prog.info? 42).map (fun i => (i.zero, i.size, i.bytes)) = some (some (.agg #[.int .i64 0, .int .i64 0, .int .i64 0]), 3, 24) := by kernel_rfl
/-- 'append(l, e...)': l of the call's own, or nil; e can be read, or nil. -/
theorem append_xs {w : World} {ops : Array Oper} {rest : List Oper} {o : Oper} {a : Act} {Q : Exit → Act → World → Prop} (hgd : o.guard = none) (s x : Operand)
    (ho : o.op = .call { callee := .builtin .append, args := #[s, x], argTypes := #[23, 23] })
    (B : Nat) (v : Value) (n : Nat) (xs : List Blk) (hs : a.eval s = v) (hown : w.ownsRow B 42 3 v n (cellsB xs)) (hxr : ∀ s ∈ xs, RgB s)
    (so : Option Addr) (m c : Nat) (zs : List Blk) (hx : a.eval x = .slice so m c) (hsl : Bs w so m c zs) (hb : (n + m) * 24 ≤ 140737488355328) (hB : B ≤ w.heap.size)
    (h : ∀ bo c' w', OwX B w' bo (n + m) c' (xs ++ zs) → w.grownBy w' v.ownBlock → wpList Try.prog ops Q rest (a.put o.dst (.slice bo (n + m) c')) w') : wpList Try.prog ops Q (o :: rest) a w := by
  obtain ⟨i0, hi, hz0, hz1, hz2⟩ := info_parts Try.info42
  have hxl : xs.length = n := by have := hown.1; rw [cellsB_length] at this; omega
  have hzl := hsl.len
  have hrr : ∀ s ∈ xs ++ zs, RgB s := fun s hs => by
    rcases List.mem_append.1 hs with hs | hs
    · exact hxr s hs
    · exact hsl.rg s hs
  cases so with
  | none =>
    obtain rfl : c = 0 := hsl.void rfl
    obtain rfl : m = 0 := by have := hsl.room; omega
    obtain rfl : zs = [] := List.eq_nil_of_length_eq_zero hzl
    obtain ⟨bo, c', rfl⟩ := own_sliceB hown
    refine wpList_append_own_none hgd s x 23 ho B 42 i0 3 Try.underlying23 hi _ n _ hs hown hx ?_
    have := h bo c' w ⟨by simpa using hxl, by simpa using hown, hrr⟩ (World.grownBy.refl _ _)
    simpa using this
  | some ad =>
    have hcs : ∀ j u, (cellsB zs)[j]? = some u → w.cell? (ad.add j) = some u := by
      intro j u hu
      have hj : 0 < m := by
        have := (List.getElem?_eq_some_iff.1 hu).1
        rw [cellsB_length] at this
        omega
      obtain ⟨b, off, e, _, _⟩ := hsl.here hj
      simp only [Option.some.injEq] at e
      subst e
      have := hsl.part 0 m (by omega) j u (by rw [List.drop_zero, List.take_of_length_le (by omega)]; exact hu)
      simpa using this
    refine wpList_append_own _ hgd s x 23 ho B 42 i0 (.agg #[.int .i64 0, .int .i64 0, .int .i64 0]) 3 24 Try.underlying23 hi hz0 hz1 hz2 rfl (by decide) v n _ hs hown ad m c (cellsB zs) hx (by rw [cellsB_length, hzl]) hcs (cellsB_one _) (by unfold maxLen; omega) (by omega) hB ?_
    intro v' w' hown' hgrow hnil
    obtain ⟨bo, c', rfl⟩ := own_sliceB hown'
    exact h bo c' w' ⟨by simp [hxl, hzl], by rw [cellsB_append]; exact hown', hrr⟩ hgrow
end Go.Proofs.Ythkloknongkpdaa
/- An extent in a block of its own. -/
namespace Go.Proofs.Ythkloknongkpdaa
set_option maxRecDepth 100000
open Go.RowKit
set_option linter.unusedVariables false
set_option linter.unusedSimpArgs false

/-- An extent in a block of its own. -/
def BxX (w : World) (b : Nat) (s : Blk) : Prop := w.heap[b]? = some (.cells #[.int .i64 s.pos, .int .i64 s.sz, .int .i64 s.ix] 42 (0, 0))
theorem BxX.lt {w : World} {b : Nat} {s : Blk} (h : BxX w b s) : b < w.heap.size := (Array.getElem?_eq_some_iff.1 h).1
theorem BxX.kept {w w' : World} {b : Nat} {s : Blk} (h : BxX w b s) (hb : Below w.heap.size w w') : BxX w' b s := (hb.block b h.lt).trans h
theorem BxX.off {F : Nat → Prop} {w w' : World} {b : Nat} {s : Blk} (h : BxX w b s) (ho : Off F w w') (hn : ¬ F b) : BxX w' b s := (ho.block b h.lt hn).trans h
theorem BxX.cells {w : World} {b : Nat} {s : Blk} (h : BxX w b s) : w.cell? ⟨b, 0, none⟩ = some (.int .i64 s.pos) ∧ w.cell? ⟨b, 1, none⟩ = some (.int .i64 s.sz) ∧ w.cell? ⟨b, 2, none⟩ = some (.int .i64 s.ix) ∧ w.frozen? ⟨b, 0, none⟩ = false ∧ w.frozen? ⟨b, 1, none⟩ = false ∧ w.frozen? ⟨b, 2, none⟩ = false := by
  refine ⟨?_, ?_, ?_, frozen_of_row w b 0 _ 42 h, frozen_of_row w b 1 _ 42 h, frozen_of_row w b 2 _ 42 h⟩ <;> (unfold BxX at h; simp [World.cell?, h])
theorem bxX_new (w : World) (p z u : Int) : BxX (w.alloc (.cells #[.int .i64 p, .int .i64 z, .int .i64 u] 42)) w.heap.size ⟨p, z, u⟩ := heap_alloc_new w _
theorem BxX.set {w : World} {b : Nat} {s : Blk} (h : BxX w b s) (t : Blk) : BxX (((w.setCell ⟨b, 0, none⟩ (.int .i64 t.pos)).setCell ⟨b, 1, none⟩ (.int .i64 t.sz)).setCell ⟨b, 2, none⟩ (.int .i64 t.ix)) b t := by
  have h1 := heap_setCell_same w b 0 _ 42 (.int .i64 t.pos) h
  have h2 := heap_setCell_same _ b 1 _ 42 (.int .i64 t.sz) h1
  have h3 := heap_setCell_same _ b 2 _ 42 (.int .i64 t.ix) h2
  exact h3
theorem BxX.set0 {w : World} {b : Nat} {s : Blk} (h : BxX w b s) (x : Int) : BxX (w.setCell ⟨b, 0, none⟩ (.int .i64 x)) b ⟨x, s.sz, s.ix⟩ := heap_setCell_same w b 0 _ 42 (.int .i64 x) h
theorem BxX.set1 {w : World} {b : Nat} {s : Blk} (h : BxX w b s) (x : Int) : BxX (w.setCell ⟨b, 1, none⟩ (.int .i64 x)) b ⟨s.pos, x, s.ix⟩ := heap_setCell_same w b 1 _ 42 (.int .i64 x) h
theorem BxX.set2 {w : World} {b : Nat} {s : Blk} (h : BxX w b s) (x : Int) : BxX (w.setCell ⟨b, 2, none⟩ (.int .i64 x)) b ⟨s.pos, s.sz, x⟩ := heap_setCell_same w b 2 _ 42 (.int .i64 x) h
end Go.Proofs.Ythkloknongkpdaa
