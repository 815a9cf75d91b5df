/- SpnR · PairR: these texts, one behind another. -/
import Derived.Test.YthkloknongkpdaaMtA
import Derived.Test.YthkloknongkpdaaPart
import Derived.Test.YthkloknongkpdaaOff
import Derived.Test.YthkloknongkpdaaInfo
import Derived.Laws.AppendOwnNone
/- Slices of spans (two numbers each) that can be read. -/
namespace Go.Proofs.Ythkloknongkpdaa
set_option maxRecDepth 100000
open Go.RowKit
set_option linter.unusedVariables false

def Spn.cells (s : Spn) : List Value := [.int .i64 s.pos, .int .i64 s.sz]
def cellsP (l : List Spn) : List Value := l.flatMap Spn.cells
theorem Spn.cells_len (s : Spn) : s.cells.length = 2 := rfl
theorem cellsP_length (l : List Spn) : (cellsP l).length = l.length * 2 := by
  induction l with
  | nil => rfl
  | cons a r ih => simp only [cellsP, List.flatMap_cons, List.length_append, List.length_cons, Spn.cells_len]; simp only [cellsP] at ih; omega
theorem cellsP_append (a b : List Spn) : cellsP (a ++ b) = cellsP a ++ cellsP b := by simp [cellsP]
theorem cellsP_get (l : List Spn) {i j : Nat} (h : i < l.length) (hj : j < 2) : (cellsP l)[i * 2 + j]? = (pa l i).cells[j]? := by
  induction l generalizing i with
  | nil => simp at h
  | cons a r ih =>
    cases i with
    | zero =>
      simp only [cellsP, List.flatMap_cons]
      rw [Nat.zero_mul, Nat.zero_add, List.getElem?_append_left (by rw [Spn.cells_len]; exact hj)]
      rfl
    | succ i =>
      have := ih (i := i) (by simpa using h)
      simp only [cellsP, List.flatMap_cons] at this ⊢
      rw [List.getElem?_append_right (by rw [Spn.cells_len]; omega), Spn.cells_len, show (i + 1) * 2 + j - 2 = i * 2 + j by omega, this]
      rfl
theorem cellsP_one (l : List Spn) : ∀ u ∈ cellsP l, u.oneCell' = true := by
  intro u hu
  simp only [cellsP, List.mem_flatMap] at hu
  obtain ⟨s, _, hs⟩ := hu
  simp only [Spn.cells, List.mem_cons, List.not_mem_nil, or_false] at hs
  rcases hs with rfl | rfl <;> rfl

/-- Two cells are a span. -/
structure P2 (w : World) (b o : Nat) (s : Spn) : Prop where
  c0 : w.cell? ⟨b, o, none⟩ = some (.int .i64 s.pos)
  c1 : w.cell? ⟨b, o + 1, none⟩ = some (.int .i64 s.sz)
theorem P2.of {w : World} {b o : Nat} {s : Spn} (h : ∀ j u, s.cells[j]? = some u → w.cell? ⟨b, o + j, none⟩ = some u) : P2 w b o s := ⟨h 0 _ rfl, h 1 _ rfl⟩
theorem P2.all {w : World} {b o : Nat} {s : Spn} (h : P2 w b o s) : ∀ j u, s.cells[j]? = some u → w.cell? ⟨b, o + j, none⟩ = some u := by
  intro j u hu
  match j, hu with
  | 0, hu => simp [Spn.cells] at hu; subst hu; exact h.c0
  | 1, hu => simp [Spn.cells] at hu; subst hu; exact h.c1
  | j + 2, hu => simp [Spn.cells] at hu
theorem P2.same {w w' : World} {b o : Nat} {s : Spn} (h : P2 w b o s) (e : w'.heap[b]? = w.heap[b]?) : P2 w' b o s := by
  refine P2.of fun j u hu => ?_
  rw [World.cell?_of_block (w := w) (a := ⟨b, o + j, none⟩) e]
  exact h.all j u hu
theorem P2.below {w w' : World} {b o : Nat} {s : Spn} (h : P2 w b o s) (hb : Below w.heap.size w w') : P2 w' b o s :=
  h.same (hb.block b (by have := World.block_lt_of_cell? w _ h.c0; exact this))

/-- A slice of n spans that can be read. -/
structure Ps (w : World) (ao : Option Addr) (n cap : Nat) (l : List Spn) : Prop where
  len : l.length = n
  room : n ≤ cap
  void : ao = none → cap = 0
  here : 0 < n → ∃ b off, ao = some ⟨b, off, none⟩ ∧ b < w.heap.size ∧ ∀ i, i < n → P2 w b (off + i * 2) (pa l i)
  rg : ∀ s ∈ l, RgP s
theorem Ps.rgs {w : World} {ao : Option Addr} {n cap : Nat} {l : List Spn} (h : Ps w ao n cap l) {i : Nat} (hi : i < n) : RgP (pa l i) := h.rg _ (pa_mem (by rw [h.len]; exact hi))
theorem Ps.below {w w' : World} {ao : Option Addr} {n cap : Nat} {l : List Spn} (h : Ps w ao n cap l) (hb : Below w.heap.size w w') : Ps w' ao n cap l := by
  refine ⟨h.len, h.room, h.void, fun hn => ?_, h.rg⟩
  obtain ⟨b, off, e, hlt, hc⟩ := h.here hn
  exact ⟨b, off, e, Nat.lt_of_lt_of_le hlt hb.size, fun i hi => (hc i hi).below hb⟩
theorem Ps.off {F : Nat → Prop} {w w' : World} {ao : Option Addr} {n cap : Nat} {l : List Spn} (h : Ps w ao n cap l) (ho : Off F w w') (hno : 0 < n → ∀ c, ao = some c → ¬ F c.block) : Ps w' ao n cap l := by
  refine ⟨h.len, h.room, h.void, fun hn => ?_, h.rg⟩
  obtain ⟨b, off, e, hlt, hc⟩ := h.here hn
  exact ⟨b, off, e, Nat.lt_of_lt_of_le hlt ho.size, fun i hi => (hc i hi).same (ho.block b hlt (hno hn _ e))⟩
/-- A span of one, at a later world. -/
theorem Ps.at {w wr : World} {b off n cap : Nat} {l : List Spn} (h : Ps w (some ⟨b, off, none⟩) n cap l) (hb : Below w.heap.size w wr) {i : Nat} (hi : i < n) : P2 wr b (off + i * 2) (pa l i) := by
  obtain ⟨b', o', e, _, hc⟩ := (h.below hb).here (by omega)
  simp only [Option.some.injEq, Addr.mk.injEq, and_true] at e
  obtain ⟨rfl, rfl⟩ := e
  exact hc i hi
theorem ps_nil (w : World) : Ps w none 0 0 [] := ⟨rfl, Nat.le_refl _, fun _ => rfl, fun h => absurd h (by omega), fun s hs => by cases hs⟩
/-- The cells of a part of one. -/
theorem Ps.part {w : World} {b off n cap : Nat} {l : List Spn} (h : Ps w (some ⟨b, off, none⟩) n cap l) (i m : Nat) (hm : i + m ≤ n) :
    ∀ j u, (cellsP ((l.drop i).take m))[j]? = some u → w.cell? ((⟨b, off + i * 2, none⟩ : Addr).add j) = some u := by
  intro j u hu
  have hlen := h.len
  have hl : ((l.drop i).take m).length = m := by simp; omega
  have hj : j < m * 2 := by
    have := (List.getElem?_eq_some_iff.1 hu).1
    rw [cellsP_length, hl] at this
    exact this
  have hs := h.at (Below.refl _ _) (i := i + j / 2) (by omega)
  have hg := cellsP_get ((l.drop i).take m) (i := j / 2) (j := j % 2) (by omega) (Nat.mod_lt _ (by omega))
  rw [show j / 2 * 2 + j % 2 = j by omega, hu] at hg
  have e : pa ((l.drop i).take m) (j / 2) = pa l (i + j / 2) := by
    simp only [pa, List.getD]
    rw [List.getElem?_take, if_pos (by omega), List.getElem?_drop]
  rw [e] at hg
  have := hs.all (j % 2) u hg.symm
  rw [Addr.add_lit]
  rw [show off + (i + j / 2) * 2 + j % 2 = off + i * 2 + j by omega] at this
  exact this

theorem cellsP_set (l : List Spn) (k : Nat) (s : Spn) (h : k < l.length) : cellsP (l.set k s) = ((cellsP l).set (k * 2) (.int .i64 s.pos)).set (k * 2 + 1) (.int .i64 s.sz) := by
  apply List.ext_getElem?
  intro i
  by_cases hi : i < l.length * 2
  · have g1 := cellsP_get (l.set k s) (i := i / 2) (j := i % 2) (by rw [List.length_set]; omega) (Nat.mod_lt _ (by omega))
    have g2 := cellsP_get l (i := i / 2) (j := i % 2) (by omega) (Nat.mod_lt _ (by omega))
    rw [show i / 2 * 2 + i % 2 = i by omega] at g1 g2
    rw [g1]
    simp only [List.getElem?_set, List.length_set, cellsP_length]
    by_cases e : i / 2 = k
    · rw [e, pa_set_same l k s h]
      rcases (show i % 2 = 0 ∨ i % 2 = 1 by omega) with e1 | e1
      · rw [e1, if_neg (by omega), if_pos (by omega), if_pos (by omega)]; rfl
      · rw [e1, if_pos (by omega), if_pos (by omega)]; rfl
    · rw [pa_set_other l k _ s (Ne.symm e), if_neg (by omega), if_neg (by omega), g2]
  · rw [List.getElem?_eq_none (by rw [cellsP_length, List.length_set]; omega), List.getElem?_eq_none (by simp [cellsP_length]; omega)]
theorem own_sliceP {w : World} {B : Nat} {e : TypeId} {s : Nat} {v : Value} {n : Nat} {xs : List Value} (h : w.ownsRow B e s v n xs) : ∃ bo c, v = .slice bo n c := by
  rcases h.2 with ⟨h0, hn⟩ | ⟨g, cap, cur, rfl, _⟩
  · subst hn
    exact ⟨none, 0, h0⟩
  · exact ⟨_, _, rfl⟩
end Go.Proofs.Ythkloknongkpdaa
/- Slices of a tree's pairs of the call's own (a pair is read as a span is: pos its first, sz its second number). -/
namespace Go.Proofs.Ythkloknongkpdaa
set_option maxRecDepth 100000
open Go.RowKit
set_option linter.unusedVariables false

/-- A slice of n objects at the head of a row of the call's own, in a block from B on; or a nil one. -/
structure OwY (B : Nat) (w : World) (ao : Option Addr) (n cap : Nat) (l : List Spn) : Prop where
  len : l.length = n
  row : w.ownsRow B 68 2 (.slice ao n cap) n (cellsP l)
  rg : ∀ s ∈ l, RgP s
theorem owY_nil (B : Nat) (w : World) : OwY B w none 0 0 [] := ⟨rfl, World.ownsRow_nil _ _ _ _, fun s hs => by cases hs⟩
theorem OwY.below {B : Nat} {w w' : World} {ao : Option Addr} {n cap : Nat} {l : List Spn} (h : OwY B w ao n cap l) (hb : Below w.heap.size w w') : OwY B w' ao n cap l := by
  refine ⟨h.len, ⟨h.row.1, ?_⟩, h.rg⟩
  rcases h.row.2 with hn | ⟨g, cap', cur, hv, hg, hh, r⟩
  · exact Or.inl hn
  · refine Or.inr ⟨g, cap', cur, hv, hg, ?_, r⟩
    rw [hb.block g (Array.getElem?_eq_some_iff.1 hh).1]
    exact hh
theorem OwY.mono {B B' : Nat} {w : World} {ao : Option Addr} {n cap : Nat} {l : List Spn} (h : OwY B w ao n cap l) (hB : B' ≤ B) : OwY B' w ao n cap l := by
  refine ⟨h.len, ⟨h.row.1, ?_⟩, h.rg⟩
  rcases h.row.2 with hn | ⟨g, cap', cur, hv, hg, r⟩
  · exact Or.inl hn
  · exact Or.inr ⟨g, cap', cur, hv, Nat.le_trans hB hg, r⟩
theorem OwY.ps {B : Nat} {w : World} {ao : Option Addr} {n cap : Nat} {l : List Spn} (h : OwY B w ao n cap l) : Ps w ao n cap l := by
  rcases h.row.2 with ⟨hv, hn⟩ | ⟨g, cap', cur, hv, hg, hh, hc, hm, hs, ht⟩
  · simp only [Value.slice.injEq] at hv
    obtain ⟨rfl, rfl, rfl⟩ := hv
    exact ⟨h.len, Nat.le_refl _, fun _ => rfl, fun h => absurd h (by omega), h.rg⟩
  · simp only [Value.slice.injEq] at hv
    obtain ⟨rfl, _, rfl⟩ := hv
    refine ⟨h.len, hc, (by intro h; cases h), fun _ => ⟨g, 0, rfl, (Array.getElem?_eq_some_iff.1 hh).1, fun i hi => P2.of fun j u hu => ?_⟩, h.rg⟩
    have hj : j < 2 := (List.getElem?_eq_some_iff.1 hu).1
    have hlen := h.len
    have h1 := cellsP_get l (i := i) (j := j) (by omega) hj
    rw [hu, ← ht, List.getElem?_take, if_pos (by omega), Array.getElem?_toList] at h1
    rw [Nat.zero_add, cell_of_row w g _ cur 68 (0, 0) hh]
    exact h1
theorem OwY.cap_le {B : Nat} {w : World} {ao : Option Addr} {n cap : Nat} {l : List Spn} (h : OwY B w ao n cap l) : n ≤ cap ∧ cap ≤ 9223372036854775807 := by
  rcases h.row.2 with ⟨hv, hn⟩ | ⟨g, cap', cur, hv, hg, hh, hc, hm, r⟩
  · simp only [Value.slice.injEq] at hv
    obtain ⟨rfl, rfl, rfl⟩ := hv
    exact ⟨Nat.le_refl _, by omega⟩
  · simp only [Value.slice.injEq] at hv
    obtain ⟨rfl, _, rfl⟩ := hv
    exact ⟨hc, by simpa [maxLen] using hm⟩
theorem OwY.shape {B : Nat} {w : World} {ao : Option Addr} {n cap : Nat} {l : List Spn} (h : OwY B w ao n cap l) (hn : 0 < n) : ∃ g, ao = some ⟨g, 0, none⟩ ∧ B ≤ g ∧ g < w.heap.size := by
  rcases h.row.2 with ⟨hv, h0⟩ | ⟨g, cap', cur, hv, hg, hh, _⟩
  · omega
  · simp only [Value.slice.injEq] at hv
    exact ⟨g, hv.1, hg, (Array.getElem?_eq_some_iff.1 hh).1⟩
theorem OwY.off {F : Nat → Prop} {B : Nat} {w w' : World} {ao : Option Addr} {n cap : Nat} {l : List Spn} (h : OwY B w ao n cap l) (ho : Off F w w') (hno : ∀ c, ao = some c → ¬ F c.block) : OwY B w' ao n cap l := by
  refine ⟨h.len, ⟨h.row.1, ?_⟩, h.rg⟩
  rcases h.row.2 with hn | ⟨g, cap', cur, hv, hg, hh, r⟩
  · exact Or.inl hn
  · refine Or.inr ⟨g, cap', cur, hv, hg, ?_, r⟩
    have e1 : ao = some ⟨g, 0, none⟩ := by simp only [Value.slice.injEq] at hv; exact hv.1
    rw [ho.block g (Array.getElem?_eq_some_iff.1 hh).1 (hno _ e1)]
    exact hh
/-- An object laid into a row of the call's own. -/
theorem OwY.set {B : Nat} {w : World} {g n cap : Nat} {l : List Spn} (h : OwY B w (some ⟨g, 0, none⟩) n cap l) {k : Nat} (hk : k < n) {s : Spn} (hs : RgP s) :
    OwY B ((w.setCell ⟨g, k * 2, none⟩ (.int .i64 s.pos)).setCell ⟨g, k * 2 + 1, none⟩ (.int .i64 s.sz)) (some ⟨g, 0, none⟩) n cap (l.set k s) := by
  have hl := h.len
  refine ⟨by rw [List.length_set]; exact hl, ?_, fun x hx => ?_⟩
  · rw [cellsP_set l k s (by omega)]
    exact ((h.row.stored _ _).1.stored _ _).1
  · rcases List.mem_or_eq_of_mem_set hx with hx | rfl
    · exact h.rg x hx
    · exact hs
theorem OwY.free {B : Nat} {w : World} {g n cap : Nat} {l : List Spn} (h : OwY B w (some ⟨g, 0, none⟩) n cap l) (j : Nat) : w.frozen? ⟨g, j, none⟩ = false := h.row.frozenAt j
theorem Try.info68 : (Try.prog.info? 68).map (fun i => (i.zero, i.size, i.bytes)) = some (some (.agg #[.int .i64 0, .int .i64 0]), 2, 16) := by kernel_rfl
/-- 'append(l, e...)': l of the call's own, or nil; e can be read, or nil. -/
theorem append_ys {w : World} {ops : Array Oper} {rest : List Oper} {o : Oper} {a : Act} {Q : Exit → Act → World → Prop} (hgd : o.guard = none) (s x : Operand)
    (ho : o.op = .call { callee := .builtin .append, args := #[s, x], argTypes := #[56, 56] })
    (B : Nat) (v : Value) (n : Nat) (xs : List Spn) (hs : a.eval s = v) (hown : w.ownsRow B 68 2 v n (cellsP xs)) (hxr : ∀ s ∈ xs, RgP s)
    (so : Option Addr) (m c : Nat) (zs : List Spn) (hx : a.eval x = .slice so m c) (hsl : Ps w so m c zs) (hb : (n + m) * 16 ≤ 140737488355328) (hB : B ≤ w.heap.size)
    (h : ∀ bo c' w', OwY B w' bo (n + m) c' (xs ++ zs) → w.grownBy w' v.ownBlock → wpList Try.prog ops Q rest (a.put o.dst (.slice bo (n + m) c')) w') : wpList Try.prog ops Q (o :: rest) a w := by
  obtain ⟨i0, hi, hz0, hz1, hz2⟩ := info_parts Try.info68
  have hxl : xs.length = n := by have := hown.1; rw [cellsP_length] at this; omega
  have hzl := hsl.len
  have hrr : ∀ s ∈ xs ++ zs, RgP s := fun s hs => by
    rcases List.mem_append.1 hs with hs | hs
    · exact hxr s hs
    · exact hsl.rg s hs
  cases so with
  | none =>
    obtain rfl : c = 0 := hsl.void rfl
    obtain rfl : m = 0 := by have := hsl.room; omega
    obtain rfl : zs = [] := List.eq_nil_of_length_eq_zero hzl
    obtain ⟨bo, c', rfl⟩ := own_sliceP hown
    refine wpList_append_own_none hgd s x 56 ho B 68 i0 2 Try.underlying56 hi _ n _ hs hown hx ?_
    have := h bo c' w ⟨by simpa using hxl, by simpa using hown, hrr⟩ (World.grownBy.refl _ _)
    simpa using this
  | some ad =>
    have hcs : ∀ j u, (cellsP zs)[j]? = some u → w.cell? (ad.add j) = some u := by
      intro j u hu
      have hj : 0 < m := by
        have := (List.getElem?_eq_some_iff.1 hu).1
        rw [cellsP_length] at this
        omega
      obtain ⟨b, off, e, _, _⟩ := hsl.here hj
      simp only [Option.some.injEq] at e
      subst e
      have := hsl.part 0 m (by omega) j u (by rw [List.drop_zero, List.take_of_length_le (by omega)]; exact hu)
      simpa using this
    refine wpList_append_own _ hgd s x 56 ho B 68 i0 (.agg #[.int .i64 0, .int .i64 0]) 2 16 Try.underlying56 hi hz0 hz1 hz2 rfl (by decide) v n _ hs hown ad m c (cellsP zs) hx (by rw [cellsP_length, hzl]) hcs (cellsP_one _) (by unfold maxLen; omega) (by omega) hB ?_
    intro v' w' hown' hgrow hnil
    obtain ⟨bo, c', rfl⟩ := own_sliceP hown'
    exact h bo c' w' ⟨by simp [hxl, hzl], by rw [cellsP_append]; exact hown', hrr⟩ hgrow

/-- An object in a block of its own. -/
def Spn.oy (s : Spn) : Obj := .cells #[.int .i64 s.pos, .int .i64 s.sz] 68
def BxY (w : World) (b : Nat) (s : Spn) : Prop := w.heap[b]? = some (.cells #[.int .i64 s.pos, .int .i64 s.sz] 68 (0, 0))
theorem BxY.lt {w : World} {b : Nat} {s : Spn} (h : BxY w b s) : b < w.heap.size := (Array.getElem?_eq_some_iff.1 h).1
theorem BxY.kept {w w' : World} {b : Nat} {s : Spn} (h : BxY w b s) (hb : Below w.heap.size w w') : BxY w' b s := (hb.block b h.lt).trans h
theorem BxY.off {F : Nat → Prop} {w w' : World} {b : Nat} {s : Spn} (h : BxY w b s) (ho : Off F w w') (hn : ¬ F b) : BxY w' b s := (ho.block b h.lt hn).trans h
theorem BxY.p2 {w : World} {b : Nat} {s : Spn} (h : BxY w b s) : P2 w b 0 s := by
  refine P2.of fun j u hu => ?_
  rw [cell_of_row w b (0 + j) _ 68 (0, 0) h, Nat.zero_add]
  simpa [Spn.cells] using hu
theorem BxY.cells {w : World} {b : Nat} {s : Spn} (h : BxY w b s) : w.cell? ⟨b, 0, none⟩ = some (.int .i64 s.pos) ∧ w.cell? ⟨b, 1, none⟩ = some (.int .i64 s.sz) ∧ w.frozen? ⟨b, 0, none⟩ = false ∧ w.frozen? ⟨b, 1, none⟩ = false :=
  ⟨h.p2.c0, by have := h.p2.c1; simpa using this, frozen_of_row w b 0 _ 68 h, frozen_of_row w b 1 _ 68 h⟩
theorem bxY_new (w : World) (s : Spn) : BxY (w.alloc s.oy) w.heap.size s := heap_alloc_new w _
theorem bxY_new' (w : World) (p z : Int) : BxY (w.alloc (.cells #[.int .i64 p, .int .i64 z] 68)) w.heap.size ⟨p, z⟩ := heap_alloc_new w _
theorem BxY.set {w : World} {b : Nat} {s : Spn} (h : BxY w b s) (t : Spn) : BxY ((w.setCell ⟨b, 0, none⟩ (.int .i64 t.pos)).setCell ⟨b, 1, none⟩ (.int .i64 t.sz)) b t := by
  have h1 := heap_setCell_same w b 0 _ 68 (.int .i64 t.pos) h
  have h2 := heap_setCell_same _ b 1 _ 68 (.int .i64 t.sz) h1
  exact h2
end Go.Proofs.Ythkloknongkpdaa
