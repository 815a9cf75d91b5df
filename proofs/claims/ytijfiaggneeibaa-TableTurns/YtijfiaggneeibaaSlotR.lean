/- Slices of slots: one that can be read; one of the call's own. -/
import Derived.Test.YtijfiaggneeibaaSlotM
import Derived.Test.YtijfiaggneeibaaPart
import Derived.Test.YtijfiaggneeibaaOff
import Derived.Test.YtijfiaggneeibaaInfo
import Derived.Laws.AppendOwnNone
namespace Go.Proofs.Ytijfiaggneeibaa
set_option maxRecDepth 100000
open Go.RowKit
set_option linter.unusedVariables false

def Slt.cells (s : Slt) : List Value := [.int .i64 s.gen, .bool s.live, .bool s.two, .int .i64 s.pos, .int .i64 s.len]
def cellsT (l : List Slt) : List Value := l.flatMap Slt.cells
theorem Slt.cells_len (s : Slt) : s.cells.length = 5 := rfl
theorem cellsT_length (l : List Slt) : (cellsT l).length = l.length * 5 := by
  induction l with
  | nil => rfl
  | cons a r ih => simp only [cellsT, List.flatMap_cons, List.length_append, List.length_cons, Slt.cells_len]; simp only [cellsT] at ih; omega
theorem cellsT_append (a b : List Slt) : cellsT (a ++ b) = cellsT a ++ cellsT b := by simp [cellsT]
theorem cellsT_get (l : List Slt) {i j : Nat} (h : i < l.length) (hj : j < 5) : (cellsT l)[i * 5 + j]? = (sg l i).cells[j]? := by
  induction l generalizing i with
  | nil => simp at h
  | cons a r ih =>
    cases i with
    | zero =>
      simp only [cellsT, List.flatMap_cons]
      rw [Nat.zero_mul, Nat.zero_add, List.getElem?_append_left (by rw [Slt.cells_len]; exact hj)]
      rfl
    | succ i =>
      have := ih (i := i) (by simpa using h)
      simp only [cellsT, List.flatMap_cons] at this ⊢
      rw [List.getElem?_append_right (by rw [Slt.cells_len]; omega), Slt.cells_len, show (i + 1) * 5 + j - 5 = i * 5 + j by omega, this]
      rfl
theorem cellsT_one (l : List Slt) : ∀ u ∈ cellsT l, u.oneCell' = true := by
  intro u hu
  simp only [cellsT, List.mem_flatMap] at hu
  obtain ⟨s, _, hs⟩ := hu
  simp only [Slt.cells, List.mem_cons, List.not_mem_nil, or_false] at hs
  rcases hs with rfl | rfl | rfl | rfl | rfl <;> rfl

/-- Five cells are a slot. -/
structure S5 (w : World) (b o : Nat) (s : Slt) : Prop where
  c0 : w.cell? ⟨b, o, none⟩ = some (.int .i64 s.gen)
  c1 : w.cell? ⟨b, o + 1, none⟩ = some (.bool s.live)
  c2 : w.cell? ⟨b, o + 2, none⟩ = some (.bool s.two)
  c3 : w.cell? ⟨b, o + 3, none⟩ = some (.int .i64 s.pos)
  c4 : w.cell? ⟨b, o + 4, none⟩ = some (.int .i64 s.len)
theorem S5.of {w : World} {b o : Nat} {s : Slt} (h : ∀ j u, s.cells[j]? = some u → w.cell? ⟨b, o + j, none⟩ = some u) : S5 w b o s := ⟨h 0 _ rfl, h 1 _ rfl, h 2 _ rfl, h 3 _ rfl, h 4 _ rfl⟩
theorem S5.all {w : World} {b o : Nat} {s : Slt} (h : S5 w b o s) : ∀ j u, s.cells[j]? = some u → w.cell? ⟨b, o + j, none⟩ = some u := by
  intro j u hu
  match j, hu with
  | 0, hu => simp [Slt.cells] at hu; subst hu; exact h.c0
  | 1, hu => simp [Slt.cells] at hu; subst hu; exact h.c1
  | 2, hu => simp [Slt.cells] at hu; subst hu; exact h.c2
  | 3, hu => simp [Slt.cells] at hu; subst hu; exact h.c3
  | 4, hu => simp [Slt.cells] at hu; subst hu; exact h.c4
  | j + 5, hu => simp [Slt.cells] at hu
theorem S5.same {w w' : World} {b o : Nat} {s : Slt} (h : S5 w b o s) (e : w'.heap[b]? = w.heap[b]?) : S5 w' b o s := by
  refine S5.of fun j u hu => ?_
  rw [World.cell?_of_block (w := w) (a := ⟨b, o + j, none⟩) e]
  exact h.all j u hu
theorem S5.below {w w' : World} {b o : Nat} {s : Slt} (h : S5 w b o s) (hb : Below w.heap.size w w') : S5 w' b o s :=
  h.same (hb.block b (by have := World.block_lt_of_cell? w _ h.c0; exact this))

/-- A slice of n slots that can be read. -/
structure Tb (w : World) (ao : Option Addr) (n cap : Nat) (l : List Slt) : Prop where
  len : l.length = n
  room : n ≤ cap
  void : ao = none → cap = 0
  here : 0 < n → ∃ b off, ao = some ⟨b, off, none⟩ ∧ b < w.heap.size ∧ ∀ i, i < n → S5 w b (off + i * 5) (sg l i)
  rg : ∀ s ∈ l, RgS s
theorem Tb.rgs {w : World} {ao : Option Addr} {n cap : Nat} {l : List Slt} (h : Tb w ao n cap l) {i : Nat} (hi : i < n) : RgS (sg l i) := h.rg _ (sg_mem (by rw [h.len]; exact hi))
theorem Tb.below {w w' : World} {ao : Option Addr} {n cap : Nat} {l : List Slt} (h : Tb w ao n cap l) (hb : Below w.heap.size w w') : Tb w' ao n cap l := by
  refine ⟨h.len, h.room, h.void, fun hn => ?_, h.rg⟩
  obtain ⟨b, off, e, hlt, hc⟩ := h.here hn
  exact ⟨b, off, e, Nat.lt_of_lt_of_le hlt hb.size, fun i hi => (hc i hi).below hb⟩
theorem Tb.off {F : Nat → Prop} {w w' : World} {ao : Option Addr} {n cap : Nat} {l : List Slt} (h : Tb w ao n cap l) (ho : Off F w w') (hno : 0 < n → ∀ c, ao = some c → ¬ F c.block) : Tb w' ao n cap l := by
  refine ⟨h.len, h.room, h.void, fun hn => ?_, h.rg⟩
  obtain ⟨b, off, e, hlt, hc⟩ := h.here hn
  exact ⟨b, off, e, Nat.lt_of_lt_of_le hlt ho.size, fun i hi => (hc i hi).same (ho.block b hlt (hno hn _ e))⟩
/-- A slot of one, at a later world. -/
theorem Tb.at {w wr : World} {b off n cap : Nat} {l : List Slt} (h : Tb w (some ⟨b, off, none⟩) n cap l) (hb : Below w.heap.size w wr) {i : Nat} (hi : i < n) : S5 wr b (off + i * 5) (sg l i) := by
  obtain ⟨b', o', e, _, hc⟩ := (h.below hb).here (by omega)
  simp only [Option.some.injEq, Addr.mk.injEq, and_true] at e
  obtain ⟨rfl, rfl⟩ := e
  exact hc i hi
theorem tb_nil (w : World) : Tb w none 0 0 [] := ⟨rfl, Nat.le_refl _, fun _ => rfl, fun h => absurd h (by omega), fun s hs => by cases hs⟩
/-- The cells of a part of one. -/
theorem Tb.part {w : World} {b off n cap : Nat} {l : List Slt} (h : Tb w (some ⟨b, off, none⟩) n cap l) (i m : Nat) (hm : i + m ≤ n) :
    ∀ j u, (cellsT ((l.drop i).take m))[j]? = some u → w.cell? ((⟨b, off + i * 5, none⟩ : Addr).add j) = some u := by
  intro j u hu
  have hlen := h.len
  have hl : ((l.drop i).take m).length = m := by simp; omega
  have hj : j < m * 5 := by
    have := (List.getElem?_eq_some_iff.1 hu).1
    rw [cellsT_length, hl] at this
    exact this
  have hs := h.at (Below.refl _ _) (i := i + j / 5) (by omega)
  have hg := cellsT_get ((l.drop i).take m) (i := j / 5) (j := j % 5) (by omega) (Nat.mod_lt _ (by omega))
  rw [show j / 5 * 5 + j % 5 = j by omega, hu] at hg
  have e : sg ((l.drop i).take m) (j / 5) = sg l (i + j / 5) := by
    simp only [sg, List.getD]
    rw [List.getElem?_take, if_pos (by omega), List.getElem?_drop]
  rw [e] at hg
  have := hs.all (j % 5) u hg.symm
  rw [Addr.add_lit]
  rw [show off + (i + j / 5) * 5 + j % 5 = off + i * 5 + j by omega] at this
  exact this

/-- A slice of n slots at the head of a row of the call's own, in a block from B on; or a nil one. -/
structure OwT (B : Nat) (w : World) (ao : Option Addr) (n cap : Nat) (l : List Slt) : Prop where
  len : l.length = n
  row : w.ownsRow B 39 5 (.slice ao n cap) n (cellsT l)
  rg : ∀ s ∈ l, RgS s
theorem owT_nil (B : Nat) (w : World) : OwT B w none 0 0 [] := ⟨rfl, World.ownsRow_nil _ _ _ _, fun s hs => by cases hs⟩
theorem OwT.below {B : Nat} {w w' : World} {ao : Option Addr} {n cap : Nat} {l : List Slt} (h : OwT B w ao n cap l) (hb : Below w.heap.size w w') : OwT B w' ao n cap l := by
  refine ⟨h.len, ⟨h.row.1, ?_⟩, h.rg⟩
  rcases h.row.2 with hn | ⟨g, cap', cur, hv, hg, hh, r⟩
  · exact Or.inl hn
  · refine Or.inr ⟨g, cap', cur, hv, hg, ?_, r⟩
    rw [hb.block g (Array.getElem?_eq_some_iff.1 hh).1]
    exact hh
theorem OwT.mono {B B' : Nat} {w : World} {ao : Option Addr} {n cap : Nat} {l : List Slt} (h : OwT B w ao n cap l) (hB : B' ≤ B) : OwT B' w ao n cap l := by
  refine ⟨h.len, ⟨h.row.1, ?_⟩, h.rg⟩
  rcases h.row.2 with hn | ⟨g, cap', cur, hv, hg, r⟩
  · exact Or.inl hn
  · exact Or.inr ⟨g, cap', cur, hv, Nat.le_trans hB hg, r⟩
theorem OwT.tb {B : Nat} {w : World} {ao : Option Addr} {n cap : Nat} {l : List Slt} (h : OwT B w ao n cap l) : Tb w ao n cap l := by
  rcases h.row.2 with ⟨hv, hn⟩ | ⟨g, cap', cur, hv, hg, hh, hc, hm, hs, ht⟩
  · simp only [Value.slice.injEq] at hv
    obtain ⟨rfl, rfl, rfl⟩ := hv
    exact ⟨h.len, Nat.le_refl _, fun _ => rfl, fun h => absurd h (by omega), h.rg⟩
  · simp only [Value.slice.injEq] at hv
    obtain ⟨rfl, _, rfl⟩ := hv
    refine ⟨h.len, hc, (by intro h; cases h), fun _ => ⟨g, 0, rfl, (Array.getElem?_eq_some_iff.1 hh).1, fun i hi => S5.of fun j u hu => ?_⟩, h.rg⟩
    have hj : j < 5 := (List.getElem?_eq_some_iff.1 hu).1
    have hlen := h.len
    have h1 := cellsT_get l (i := i) (j := j) (by omega) hj
    rw [hu, ← ht, List.getElem?_take, if_pos (by omega), Array.getElem?_toList] at h1
    rw [Nat.zero_add, cell_of_row w g _ cur 39 (0, 0) hh]
    exact h1
theorem OwT.cap_le {B : Nat} {w : World} {ao : Option Addr} {n cap : Nat} {l : List Slt} (h : OwT B w ao n cap l) : n ≤ cap ∧ cap ≤ 9223372036854775807 := by
  rcases h.row.2 with ⟨hv, hn⟩ | ⟨g, cap', cur, hv, hg, hh, hc, hm, r⟩
  · simp only [Value.slice.injEq] at hv
    obtain ⟨rfl, rfl, rfl⟩ := hv
    exact ⟨Nat.le_refl _, by omega⟩
  · simp only [Value.slice.injEq] at hv
    obtain ⟨rfl, _, rfl⟩ := hv
    exact ⟨hc, by simpa [maxLen] using hm⟩
theorem OwT.shape {B : Nat} {w : World} {ao : Option Addr} {n cap : Nat} {l : List Slt} (h : OwT B w ao n cap l) (hn : 0 < n) : ∃ g, ao = some ⟨g, 0, none⟩ ∧ B ≤ g ∧ g < w.heap.size := by
  rcases h.row.2 with ⟨hv, h0⟩ | ⟨g, cap', cur, hv, hg, hh, _⟩
  · omega
  · simp only [Value.slice.injEq] at hv
    exact ⟨g, hv.1, hg, (Array.getElem?_eq_some_iff.1 hh).1⟩
theorem OwT.off {F : Nat → Prop} {B : Nat} {w w' : World} {ao : Option Addr} {n cap : Nat} {l : List Slt} (h : OwT B w ao n cap l) (ho : Off F w w') (hno : ∀ c, ao = some c → ¬ F c.block) : OwT B w' ao n cap l := by
  refine ⟨h.len, ⟨h.row.1, ?_⟩, h.rg⟩
  rcases h.row.2 with hn | ⟨g, cap', cur, hv, hg, hh, r⟩
  · exact Or.inl hn
  · refine Or.inr ⟨g, cap', cur, hv, hg, ?_, r⟩
    have e1 : ao = some ⟨g, 0, none⟩ := by simp only [Value.slice.injEq] at hv; exact hv.1
    rw [ho.block g (Array.getElem?_eq_some_iff.1 hh).1 (hno _ e1)]
    exact hh
theorem cellsT_set (l : List Slt) (k : Nat) (s : Slt) (h : k < l.length) : cellsT (l.set k s) = (((((cellsT l).set (k * 5) (.int .i64 s.gen)).set (k * 5 + 1) (.bool s.live)).set (k * 5 + 2) (.bool s.two)).set (k * 5 + 3) (.int .i64 s.pos)).set (k * 5 + 4) (.int .i64 s.len) := by
  apply List.ext_getElem?
  intro i
  by_cases hi : i < l.length * 5
  · have g1 := cellsT_get (l.set k s) (i := i / 5) (j := i % 5) (by rw [List.length_set]; omega) (Nat.mod_lt _ (by omega))
    have g2 := cellsT_get l (i := i / 5) (j := i % 5) (by omega) (Nat.mod_lt _ (by omega))
    rw [show i / 5 * 5 + i % 5 = i by omega] at g1 g2
    rw [g1]
    simp only [List.getElem?_set, List.length_set, cellsT_length]
    by_cases e : i / 5 = k
    · rw [e, sg_set_same l k s h]
      rcases (show i % 5 = 0 ∨ i % 5 = 1 ∨ i % 5 = 2 ∨ i % 5 = 3 ∨ i % 5 = 4 by omega) with e1 | e1 | e1 | e1 | e1
      · rw [e1, if_neg (by omega), if_neg (by omega), if_neg (by omega), if_neg (by omega), if_pos (by omega), if_pos (by omega)]; rfl
      · rw [e1, if_neg (by omega), if_neg (by omega), if_neg (by omega), if_pos (by omega), if_pos (by omega)]; rfl
      · rw [e1, if_neg (by omega), if_neg (by omega), if_pos (by omega), if_pos (by omega)]; rfl
      · rw [e1, if_neg (by omega), if_pos (by omega), if_pos (by omega)]; rfl
      · rw [e1, if_pos (by omega), if_pos (by omega)]; rfl
    · rw [sg_set_other l k _ s (Ne.symm e), if_neg (by omega), if_neg (by omega), if_neg (by omega), if_neg (by omega), if_neg (by omega), g2]
  · rw [List.getElem?_eq_none (by rw [cellsT_length, List.length_set]; omega), List.getElem?_eq_none (by simp [cellsT_length]; omega)]
/-- A slot laid into a row of the call's own. -/
theorem OwT.set {B : Nat} {w : World} {g n cap : Nat} {l : List Slt} (h : OwT B w (some ⟨g, 0, none⟩) n cap l) {k : Nat} (hk : k < n) {s : Slt} (hs : RgS s) :
    OwT B (((((w.setCell ⟨g, k * 5, none⟩ (.int .i64 s.gen)).setCell ⟨g, k * 5 + 1, none⟩ (.bool s.live)).setCell ⟨g, k * 5 + 2, none⟩ (.bool s.two)).setCell ⟨g, k * 5 + 3, none⟩ (.int .i64 s.pos)).setCell ⟨g, k * 5 + 4, none⟩ (.int .i64 s.len)) (some ⟨g, 0, none⟩) n cap (l.set k s) := by
  have hl := h.len
  refine ⟨by rw [List.length_set]; exact hl, ?_, fun x hx => ?_⟩
  · rw [cellsT_set l k s (by omega)]
    exact (((((h.row.stored _ _).1.stored _ _).1.stored _ _).1.stored _ _).1.stored _ _).1
  · rcases List.mem_or_eq_of_mem_set hx with hx | rfl
    · exact h.rg x hx
    · exact hs
theorem OwT.free {B : Nat} {w : World} {g n cap : Nat} {l : List Slt} (h : OwT B w (some ⟨g, 0, none⟩) n cap l) (j : Nat) : w.frozen? ⟨g, j, none⟩ = false := h.row.frozenAt j
theorem Try.info39 : (Try.prog.info? 39).map (fun i => (i.zero, i.size, i.bytes)) = some (some (.agg #[.int .i64 0, .bool false, .bool false, .int .i64 0, .int .i64 0]), 5, 32) := by kernel_rfl
theorem own_sliceT {w : World} {B : Nat} {e : TypeId} {s : Nat} {v : Value} {n : Nat} {xs : List Value} (h : w.ownsRow B e s v n xs) : ∃ bo c, v = .slice bo n c := by
  rcases h.2 with ⟨h0, hn⟩ | ⟨g, cap, cur, rfl, _⟩
  · subst hn
    exact ⟨none, 0, h0⟩
  · exact ⟨_, _, rfl⟩
/-- 'append(l, e...)': l of the call's own, or nil; e can be read, or nil. -/
theorem append_tb {w : World} {ops : Array Oper} {rest : List Oper} {o : Oper} {a : Act} {Q : Exit → Act → World → Prop} (hgd : o.guard = none) (s x : Operand)
    (ho : o.op = .call { callee := .builtin .append, args := #[s, x], argTypes := #[22, 22] })
    (B : Nat) (v : Value) (n : Nat) (xs : List Slt) (hs : a.eval s = v) (hown : w.ownsRow B 39 5 v n (cellsT xs)) (hxr : ∀ s ∈ xs, RgS s)
    (so : Option Addr) (m c : Nat) (zs : List Slt) (hx : a.eval x = .slice so m c) (hsl : Tb w so m c zs) (hb : (n + m) * 32 ≤ 140737488355328) (hB : B ≤ w.heap.size)
    (h : ∀ bo c' w', OwT B w' bo (n + m) c' (xs ++ zs) → w.grownBy w' v.ownBlock → wpList Try.prog ops Q rest (a.put o.dst (.slice bo (n + m) c')) w') : wpList Try.prog ops Q (o :: rest) a w := by
  obtain ⟨i0, hi, hz0, hz1, hz2⟩ := info_parts Try.info39
  have hxl : xs.length = n := by have := hown.1; rw [cellsT_length] at this; omega
  have hzl := hsl.len
  have hrr : ∀ s ∈ xs ++ zs, RgS s := fun s hs => by
    rcases List.mem_append.1 hs with hs | hs
    · exact hxr s hs
    · exact hsl.rg s hs
  cases so with
  | none =>
    obtain rfl : c = 0 := hsl.void rfl
    obtain rfl : m = 0 := by have := hsl.room; omega
    obtain rfl : zs = [] := List.eq_nil_of_length_eq_zero hzl
    obtain ⟨bo, c', rfl⟩ := own_sliceT hown
    refine wpList_append_own_none hgd s x 22 ho B 39 i0 5 Try.underlying22 hi _ n _ hs hown hx ?_
    have := h bo c' w ⟨by simpa using hxl, by simpa using hown, hrr⟩ (World.grownBy.refl _ _)
    simpa using this
  | some ad =>
    have hcs : ∀ j u, (cellsT zs)[j]? = some u → w.cell? (ad.add j) = some u := by
      intro j u hu
      have hj : 0 < m := by
        have := (List.getElem?_eq_some_iff.1 hu).1
        rw [cellsT_length] at this
        omega
      obtain ⟨b, off, e, _, _⟩ := hsl.here hj
      simp only [Option.some.injEq] at e
      subst e
      have := hsl.part 0 m (by omega) j u (by rw [List.drop_zero, List.take_of_length_le (by omega)]; exact hu)
      simpa using this
    refine wpList_append_own _ hgd s x 22 ho B 39 i0 (.agg #[.int .i64 0, .bool false, .bool false, .int .i64 0, .int .i64 0]) 5 32 Try.underlying22 hi hz0 hz1 hz2 rfl (by decide) v n _ hs hown ad m c (cellsT zs) hx (by rw [cellsT_length, hzl]) hcs (cellsT_one _) (by unfold maxLen; omega) (by omega) hB ?_
    intro v' w' hown' hgrow hnil
    obtain ⟨bo, c', rfl⟩ := own_sliceT hown'
    exact h bo c' w' ⟨by simp [hxl, hzl], by rw [cellsT_append]; exact hown', hrr⟩ hgrow
end Go.Proofs.Ytijfiaggneeibaa
