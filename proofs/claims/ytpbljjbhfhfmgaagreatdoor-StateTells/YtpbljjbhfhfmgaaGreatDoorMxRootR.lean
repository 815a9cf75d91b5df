/- RootR: these texts, one behind another. -/
import Derived.Test.YtpbljjbhfhfmgaaGreatDoorMxNamesM
import Derived.Test.YtpbljjbhfhfmgaaGreatDoorMxRow
import Derived.Test.YtpbljjbhfhfmgaaGreatDoorMxOff
import Derived.Test.YtpbljjbhfhfmgaaGreatDoorMxInfo
import Derived.Laws.AppendOwnNone
/- Slices of roots: one that can be read; one of the call's own. -/
namespace Go.Proofs.YtpbljjbhfhfmgaaGreatDoor
set_option maxRecDepth 100000
open Go.RowKit
set_option linter.unusedVariables false

def Rt.cells (s : Rt) : List Value := [.string s.nm, .int .i64 s.ix, .int .i64 s.gn]
def cellsR (l : List Rt) : List Value := l.flatMap Rt.cells
theorem Rt.cells_len (s : Rt) : s.cells.length = 3 := rfl
theorem cellsR_length (l : List Rt) : (cellsR l).length = l.length * 3 := by
  induction l with
  | nil => rfl
  | cons a r ih => simp only [cellsR, List.flatMap_cons, List.length_append, List.length_cons, Rt.cells_len]; simp only [cellsR] at ih; omega
theorem cellsR_append (a b : List Rt) : cellsR (a ++ b) = cellsR a ++ cellsR b := by simp [cellsR]
theorem cellsR_get (l : List Rt) {i j : Nat} (h : i < l.length) (hj : j < 3) : (cellsR l)[i * 3 + j]? = (ra l i).cells[j]? := by
  induction l generalizing i with
  | nil => simp at h
  | cons a r ih =>
    cases i with
    | zero =>
      simp only [cellsR, List.flatMap_cons]
      rw [Nat.zero_mul, Nat.zero_add, List.getElem?_append_left (by rw [Rt.cells_len]; exact hj)]
      rfl
    | succ i =>
      have := ih (i := i) (by simpa using h)
      simp only [cellsR, List.flatMap_cons] at this ⊢
      rw [List.getElem?_append_right (by rw [Rt.cells_len]; omega), Rt.cells_len, show (i + 1) * 3 + j - 3 = i * 3 + j by omega, this]
      rfl
theorem cellsR_one (l : List Rt) : ∀ u ∈ cellsR l, u.oneCell' = true := by
  intro u hu
  simp only [cellsR, List.mem_flatMap] at hu
  obtain ⟨s, _, hs⟩ := hu
  simp only [Rt.cells, List.mem_cons, List.not_mem_nil, or_false] at hs
  rcases hs with rfl | rfl | rfl <;> rfl

/-- Three cells are a root. -/
structure R3 (w : World) (b o : Nat) (s : Rt) : Prop where
  c0 : w.cell? ⟨b, o, none⟩ = some (.string s.nm)
  c1 : w.cell? ⟨b, o + 1, none⟩ = some (.int .i64 s.ix)
  c2 : w.cell? ⟨b, o + 2, none⟩ = some (.int .i64 s.gn)
theorem R3.of {w : World} {b o : Nat} {s : Rt} (h : ∀ j u, s.cells[j]? = some u → w.cell? ⟨b, o + j, none⟩ = some u) : R3 w b o s := ⟨h 0 _ rfl, h 1 _ rfl, h 2 _ rfl⟩
theorem R3.all {w : World} {b o : Nat} {s : Rt} (h : R3 w b o s) : ∀ j u, s.cells[j]? = some u → w.cell? ⟨b, o + j, none⟩ = some u := by
  intro j u hu
  match j, hu with
  | 0, hu => simp [Rt.cells] at hu; subst hu; exact h.c0
  | 1, hu => simp [Rt.cells] at hu; subst hu; exact h.c1
  | 2, hu => simp [Rt.cells] at hu; subst hu; exact h.c2
  | j + 3, hu => simp [Rt.cells] at hu
theorem R3.same {w w' : World} {b o : Nat} {s : Rt} (h : R3 w b o s) (e : w'.heap[b]? = w.heap[b]?) : R3 w' b o s := by
  refine R3.of fun j u hu => ?_
  rw [World.cell?_of_block (w := w) (a := ⟨b, o + j, none⟩) e]
  exact h.all j u hu
theorem R3.below {w w' : World} {b o : Nat} {s : Rt} (h : R3 w b o s) (hb : Below w.heap.size w w') : R3 w' b o s :=
  h.same (hb.block b (by have := World.block_lt_of_cell? w _ h.c0; exact this))

/-- A slice of n roots that can be read. -/
structure Rs (w : World) (ao : Option Addr) (n cap : Nat) (l : List Rt) : Prop where
  len : l.length = n
  room : n ≤ cap
  void : ao = none → cap = 0
  here : 0 < n → ∃ b off, ao = some ⟨b, off, none⟩ ∧ b < w.heap.size ∧ ∀ i, i < n → R3 w b (off + i * 3) (ra l i)
  rg : ∀ s ∈ l, RgR s
theorem Rs.rgs {w : World} {ao : Option Addr} {n cap : Nat} {l : List Rt} (h : Rs w ao n cap l) {i : Nat} (hi : i < n) : RgR (ra l i) := h.rg _ (ra_mem (by rw [h.len]; exact hi))
theorem Rs.below {w w' : World} {ao : Option Addr} {n cap : Nat} {l : List Rt} (h : Rs w ao n cap l) (hb : Below w.heap.size w w') : Rs w' ao n cap l := by
  refine ⟨h.len, h.room, h.void, fun hn => ?_, h.rg⟩
  obtain ⟨b, off, e, hlt, hc⟩ := h.here hn
  exact ⟨b, off, e, Nat.lt_of_lt_of_le hlt hb.size, fun i hi => (hc i hi).below hb⟩
theorem Rs.off {F : Nat → Prop} {w w' : World} {ao : Option Addr} {n cap : Nat} {l : List Rt} (h : Rs w ao n cap l) (ho : Off F w w') (hno : 0 < n → ∀ c, ao = some c → ¬ F c.block) : Rs w' ao n cap l := by
  refine ⟨h.len, h.room, h.void, fun hn => ?_, h.rg⟩
  obtain ⟨b, off, e, hlt, hc⟩ := h.here hn
  exact ⟨b, off, e, Nat.lt_of_lt_of_le hlt ho.size, fun i hi => (hc i hi).same (ho.block b hlt (hno hn _ e))⟩
/-- A root of one, at a later world. -/
theorem Rs.at {w wr : World} {b off n cap : Nat} {l : List Rt} (h : Rs w (some ⟨b, off, none⟩) n cap l) (hb : Below w.heap.size w wr) {i : Nat} (hi : i < n) : R3 wr b (off + i * 3) (ra l i) := by
  obtain ⟨b', o', e, _, hc⟩ := (h.below hb).here (by omega)
  simp only [Option.some.injEq, Addr.mk.injEq, and_true] at e
  obtain ⟨rfl, rfl⟩ := e
  exact hc i hi
theorem rs_nil (w : World) : Rs w none 0 0 [] := ⟨rfl, Nat.le_refl _, fun _ => rfl, fun h => absurd h (by omega), fun s hs => by cases hs⟩
/-- The cells of a part of one. -/
theorem Rs.part {w : World} {b off n cap : Nat} {l : List Rt} (h : Rs w (some ⟨b, off, none⟩) n cap l) (i m : Nat) (hm : i + m ≤ n) :
    ∀ j u, (cellsR ((l.drop i).take m))[j]? = some u → w.cell? ((⟨b, off + i * 3, none⟩ : Addr).add j) = some u := by
  intro j u hu
  have hlen := h.len
  have hl : ((l.drop i).take m).length = m := by simp; omega
  have hj : j < m * 3 := by
    have := (List.getElem?_eq_some_iff.1 hu).1
    rw [cellsR_length, hl] at this
    exact this
  have hs := h.at (Below.refl _ _) (i := i + j / 3) (by omega)
  have hg := cellsR_get ((l.drop i).take m) (i := j / 3) (j := j % 3) (by omega) (Nat.mod_lt _ (by omega))
  rw [show j / 3 * 3 + j % 3 = j by omega, hu] at hg
  have e : ra ((l.drop i).take m) (j / 3) = ra l (i + j / 3) := by
    simp only [ra, List.getD]
    rw [List.getElem?_take, if_pos (by omega), List.getElem?_drop]
  rw [e] at hg
  have := hs.all (j % 3) u hg.symm
  rw [Addr.add_lit]
  rw [show off + (i + j / 3) * 3 + j % 3 = off + i * 3 + j by omega] at this
  exact this

/-- A slice of n roots at the head of a row of the call's own, in a block from B on; or a nil one. -/
structure OwR (B : Nat) (w : World) (ao : Option Addr) (n cap : Nat) (l : List Rt) : Prop where
  len : l.length = n
  row : w.ownsRow B 52 3 (.slice ao n cap) n (cellsR l)
  rg : ∀ s ∈ l, RgR s
theorem owR_nil (B : Nat) (w : World) : OwR B w none 0 0 [] := ⟨rfl, World.ownsRow_nil _ _ _ _, fun s hs => by cases hs⟩
theorem OwR.below {B : Nat} {w w' : World} {ao : Option Addr} {n cap : Nat} {l : List Rt} (h : OwR B w ao n cap l) (hb : Below w.heap.size w w') : OwR B w' ao n cap l := by
  refine ⟨h.len, ⟨h.row.1, ?_⟩, h.rg⟩
  rcases h.row.2 with hn | ⟨g, cap', cur, hv, hg, hh, r⟩
  · exact Or.inl hn
  · refine Or.inr ⟨g, cap', cur, hv, hg, ?_, r⟩
    rw [hb.block g (Array.getElem?_eq_some_iff.1 hh).1]
    exact hh
theorem OwR.mono {B B' : Nat} {w : World} {ao : Option Addr} {n cap : Nat} {l : List Rt} (h : OwR B w ao n cap l) (hB : B' ≤ B) : OwR B' w ao n cap l := by
  refine ⟨h.len, ⟨h.row.1, ?_⟩, h.rg⟩
  rcases h.row.2 with hn | ⟨g, cap', cur, hv, hg, r⟩
  · exact Or.inl hn
  · exact Or.inr ⟨g, cap', cur, hv, Nat.le_trans hB hg, r⟩
theorem OwR.rs {B : Nat} {w : World} {ao : Option Addr} {n cap : Nat} {l : List Rt} (h : OwR B w ao n cap l) : Rs w ao n cap l := by
  rcases h.row.2 with ⟨hv, hn⟩ | ⟨g, cap', cur, hv, hg, hh, hc, hm, hs, ht⟩
  · simp only [Value.slice.injEq] at hv
    obtain ⟨rfl, rfl, rfl⟩ := hv
    exact ⟨h.len, Nat.le_refl _, fun _ => rfl, fun h => absurd h (by omega), h.rg⟩
  · simp only [Value.slice.injEq] at hv
    obtain ⟨rfl, _, rfl⟩ := hv
    refine ⟨h.len, hc, (by intro h; cases h), fun _ => ⟨g, 0, rfl, (Array.getElem?_eq_some_iff.1 hh).1, fun i hi => R3.of fun j u hu => ?_⟩, h.rg⟩
    have hj : j < 3 := (List.getElem?_eq_some_iff.1 hu).1
    have hlen := h.len
    have h1 := cellsR_get l (i := i) (j := j) (by omega) hj
    rw [hu, ← ht, List.getElem?_take, if_pos (by omega), Array.getElem?_toList] at h1
    rw [Nat.zero_add, cell_of_row w g _ cur 52 (0, 0) hh]
    exact h1
theorem OwR.cap_le {B : Nat} {w : World} {ao : Option Addr} {n cap : Nat} {l : List Rt} (h : OwR B w ao n cap l) : n ≤ cap ∧ cap ≤ 9223372036854775807 := by
  rcases h.row.2 with ⟨hv, hn⟩ | ⟨g, cap', cur, hv, hg, hh, hc, hm, r⟩
  · simp only [Value.slice.injEq] at hv
    obtain ⟨rfl, rfl, rfl⟩ := hv
    exact ⟨Nat.le_refl _, by omega⟩
  · simp only [Value.slice.injEq] at hv
    obtain ⟨rfl, _, rfl⟩ := hv
    exact ⟨hc, by simpa [maxLen] using hm⟩
theorem OwR.shape {B : Nat} {w : World} {ao : Option Addr} {n cap : Nat} {l : List Rt} (h : OwR B w ao n cap l) (hn : 0 < n) : ∃ g, ao = some ⟨g, 0, none⟩ ∧ B ≤ g ∧ g < w.heap.size := by
  rcases h.row.2 with ⟨hv, h0⟩ | ⟨g, cap', cur, hv, hg, hh, _⟩
  · omega
  · simp only [Value.slice.injEq] at hv
    exact ⟨g, hv.1, hg, (Array.getElem?_eq_some_iff.1 hh).1⟩
theorem OwR.off {F : Nat → Prop} {B : Nat} {w w' : World} {ao : Option Addr} {n cap : Nat} {l : List Rt} (h : OwR B w ao n cap l) (ho : Off F w w') (hno : ∀ c, ao = some c → ¬ F c.block) : OwR B w' ao n cap l := by
  refine ⟨h.len, ⟨h.row.1, ?_⟩, h.rg⟩
  rcases h.row.2 with hn | ⟨g, cap', cur, hv, hg, hh, r⟩
  · exact Or.inl hn
  · refine Or.inr ⟨g, cap', cur, hv, hg, ?_, r⟩
    have e1 : ao = some ⟨g, 0, none⟩ := by simp only [Value.slice.injEq] at hv; exact hv.1
    rw [ho.block g (Array.getElem?_eq_some_iff.1 hh).1 (hno _ e1)]
    exact hh
theorem cellsR_set (l : List Rt) (k : Nat) (s : Rt) (h : k < l.length) : cellsR (l.set k s) = (((cellsR l).set (k * 3) (.string s.nm)).set (k * 3 + 1) (.int .i64 s.ix)).set (k * 3 + 2) (.int .i64 s.gn) := by
  apply List.ext_getElem?
  intro i
  by_cases hi : i < l.length * 3
  · have g1 := cellsR_get (l.set k s) (i := i / 3) (j := i % 3) (by rw [List.length_set]; omega) (Nat.mod_lt _ (by omega))
    have g2 := cellsR_get l (i := i / 3) (j := i % 3) (by omega) (Nat.mod_lt _ (by omega))
    rw [show i / 3 * 3 + i % 3 = i by omega] at g1 g2
    rw [g1]
    simp only [List.getElem?_set, List.length_set, cellsR_length]
    by_cases e : i / 3 = k
    · rw [e, ra_set_same l k s h]
      rcases (show i % 3 = 0 ∨ i % 3 = 1 ∨ i % 3 = 2 by omega) with e1 | e1 | e1
      · rw [e1, if_neg (by omega), if_neg (by omega), if_pos (by omega), if_pos (by omega)]; rfl
      · rw [e1, if_neg (by omega), if_pos (by omega), if_pos (by omega)]; rfl
      · rw [e1, if_pos (by omega), if_pos (by omega)]; rfl
    · rw [ra_set_other l k _ s (Ne.symm e), if_neg (by omega), if_neg (by omega), if_neg (by omega), g2]
  · rw [List.getElem?_eq_none (by rw [cellsR_length, List.length_set]; omega), List.getElem?_eq_none (by simp [cellsR_length]; omega)]
/-- A root laid into a row of the call's own. -/
theorem OwR.set {B : Nat} {w : World} {g n cap : Nat} {l : List Rt} (h : OwR B w (some ⟨g, 0, none⟩) n cap l) {k : Nat} (hk : k < n) {s : Rt} (hs : RgR s) :
    OwR B (((w.setCell ⟨g, k * 3, none⟩ (.string s.nm)).setCell ⟨g, k * 3 + 1, none⟩ (.int .i64 s.ix)).setCell ⟨g, k * 3 + 2, none⟩ (.int .i64 s.gn)) (some ⟨g, 0, none⟩) n cap (l.set k s) := by
  have hl := h.len
  refine ⟨by rw [List.length_set]; exact hl, ?_, fun x hx => ?_⟩
  · rw [cellsR_set l k s (by omega)]
    exact (((h.row.stored _ _).1.stored _ _).1.stored _ _).1
  · rcases List.mem_or_eq_of_mem_set hx with hx | rfl
    · exact h.rg x hx
    · exact hs
theorem OwR.free {B : Nat} {w : World} {g n cap : Nat} {l : List Rt} (h : OwR B w (some ⟨g, 0, none⟩) n cap l) (j : Nat) : w.frozen? ⟨g, j, none⟩ = false := h.row.frozenAt j
theorem Tryz.info52 : (Tryz.prog.info? 52).map (fun i => (i.zero, i.size, i.bytes)) = some (some (.agg #[.string ⟨#[]⟩, .int .i64 0, .int .i64 0]), 3, 32) := by kernel_rfl
theorem own_sliceR {w : World} {B : Nat} {e : TypeId} {s : Nat} {v : Value} {n : Nat} {xs : List Value} (h : w.ownsRow B e s v n xs) : ∃ bo c, v = .slice bo n c := by
  rcases h.2 with ⟨h0, hn⟩ | ⟨g, cap, cur, rfl, _⟩
  · subst hn
    exact ⟨none, 0, h0⟩
  · exact ⟨_, _, rfl⟩
/-- 'append(l, e...)': l of the call's own, or nil; e can be read, or nil. -/
theorem append_rs {w : World} {ops : Array Oper} {rest : List Oper} {o : Oper} {a : Act} {Q : Exit → Act → World → Prop} (hgd : o.guard = none) (s x : Operand)
    (ho : o.op = .call { callee := .builtin .append, args := #[s, x], argTypes := #[25, 25] })
    (B : Nat) (v : Value) (n : Nat) (xs : List Rt) (hs : a.eval s = v) (hown : w.ownsRow B 52 3 v n (cellsR xs)) (hxr : ∀ s ∈ xs, RgR s)
    (so : Option Addr) (m c : Nat) (zs : List Rt) (hx : a.eval x = .slice so m c) (hsl : Rs w so m c zs) (hb : (n + m) * 32 ≤ 140737488355328) (hB : B ≤ w.heap.size)
    (h : ∀ bo c' w', OwR B w' bo (n + m) c' (xs ++ zs) → w.grownBy w' v.ownBlock → wpList Tryz.prog ops Q rest (a.put o.dst (.slice bo (n + m) c')) w') : wpList Tryz.prog ops Q (o :: rest) a w := by
  obtain ⟨i0, hi, hz0, hz1, hz2⟩ := info_parts Tryz.info52
  have hxl : xs.length = n := by have := hown.1; rw [cellsR_length] at this; omega
  have hzl := hsl.len
  have hrr : ∀ s ∈ xs ++ zs, RgR s := fun s hs => by
    rcases List.mem_append.1 hs with hs | hs
    · exact hxr s hs
    · exact hsl.rg s hs
  cases so with
  | none =>
    obtain rfl : c = 0 := hsl.void rfl
    obtain rfl : m = 0 := by have := hsl.room; omega
    obtain rfl : zs = [] := List.eq_nil_of_length_eq_zero hzl
    obtain ⟨bo, c', rfl⟩ := own_sliceR hown
    refine wpList_append_own_none hgd s x 25 ho B 52 i0 3 Tryz.underlying25 hi _ n _ hs hown hx ?_
    have := h bo c' w ⟨by simpa using hxl, by simpa using hown, hrr⟩ (World.grownBy.refl _ _)
    simpa using this
  | some ad =>
    have hcs : ∀ j u, (cellsR zs)[j]? = some u → w.cell? (ad.add j) = some u := by
      intro j u hu
      have hj : 0 < m := by
        have := (List.getElem?_eq_some_iff.1 hu).1
        rw [cellsR_length] at this
        omega
      obtain ⟨b, off, e, _, _⟩ := hsl.here hj
      simp only [Option.some.injEq] at e
      subst e
      have := hsl.part 0 m (by omega) j u (by rw [List.drop_zero, List.take_of_length_le (by omega)]; exact hu)
      simpa using this
    refine wpList_append_own _ hgd s x 25 ho B 52 i0 (.agg #[.string ⟨#[]⟩, .int .i64 0, .int .i64 0]) 3 32 Tryz.underlying25 hi hz0 hz1 hz2 rfl (by decide) v n _ hs hown ad m c (cellsR zs) hx (by rw [cellsR_length, hzl]) hcs (cellsR_one _) (by unfold maxLen; omega) (by omega) hB ?_
    intro v' w' hown' hgrow hnil
    obtain ⟨bo, c', rfl⟩ := own_sliceR hown'
    exact h bo c' w' ⟨by simp [hxl, hzl], by rw [cellsR_append]; exact hown', hrr⟩ hgrow
end Go.Proofs.YtpbljjbhfhfmgaaGreatDoor
