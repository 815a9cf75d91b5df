/- SlotR · App · AppI · TabA · BlkR · TagR · SpnR · GapR · ObjR · StP: these texts, one behind another. -/
import Derived.Test.YtpbljjbhfhfmgaaGreatDoorMxHandM
import Derived.Test.YtpbljjbhfhfmgaaGreatDoorMxOff
import Derived.Test.YtpbljjbhfhfmgaaGreatDoorMxInfo
import Derived.Laws.AppendOwnNone
import Derived.Test.YtpbljjbhfhfmgaaGreatDoorMxLent
import Derived.WalkKit
/- Slices of slots: one that can be read; one of the call's own. -/
namespace Go.Proofs.YtpbljjbhfhfmgaaGreatDoor
set_option maxRecDepth 100000
open Go.RowKit
set_option linter.unusedVariables false

def Slt.cells (s : Slt) : List Value := [.int .i64 s.gen, .bool s.live, .bool s.two, .int .i64 s.pos, .int .i64 s.len]
def cellsT (l : List Slt) : List Value := l.flatMap Slt.cells
theorem Slt.cells_len (s : Slt) : s.cells.length = 5 := rfl
theorem cellsT_length (l : List Slt) : (cellsT l).length = l.length * 5 := by
  induction l with
  | nil => rfl
  | cons a r ih => simp only [cellsT, List.flatMap_cons, List.length_append, List.length_cons, Slt.cells_len]; simp only [cellsT] at ih; omega
theorem cellsT_append (a b : List Slt) : cellsT (a ++ b) = cellsT a ++ cellsT b := by simp [cellsT]
theorem cellsT_get (l : List Slt) {i j : Nat} (h : i < l.length) (hj : j < 5) : (cellsT l)[i * 5 + j]? = (sg l i).cells[j]? := by
  induction l generalizing i with
  | nil => simp at h
  | cons a r ih =>
    cases i with
    | zero =>
      simp only [cellsT, List.flatMap_cons]
      rw [Nat.zero_mul, Nat.zero_add, List.getElem?_append_left (by rw [Slt.cells_len]; exact hj)]
      rfl
    | succ i =>
      have := ih (i := i) (by simpa using h)
      simp only [cellsT, List.flatMap_cons] at this ⊢
      rw [List.getElem?_append_right (by rw [Slt.cells_len]; omega), Slt.cells_len, show (i + 1) * 5 + j - 5 = i * 5 + j by omega, this]
      rfl
theorem cellsT_one (l : List Slt) : ∀ u ∈ cellsT l, u.oneCell' = true := by
  intro u hu
  simp only [cellsT, List.mem_flatMap] at hu
  obtain ⟨s, _, hs⟩ := hu
  simp only [Slt.cells, List.mem_cons, List.not_mem_nil, or_false] at hs
  rcases hs with rfl | rfl | rfl | rfl | rfl <;> rfl

/-- Five cells are a slot. -/
structure S5 (w : World) (b o : Nat) (s : Slt) : Prop where
  c0 : w.cell? ⟨b, o, none⟩ = some (.int .i64 s.gen)
  c1 : w.cell? ⟨b, o + 1, none⟩ = some (.bool s.live)
  c2 : w.cell? ⟨b, o + 2, none⟩ = some (.bool s.two)
  c3 : w.cell? ⟨b, o + 3, none⟩ = some (.int .i64 s.pos)
  c4 : w.cell? ⟨b, o + 4, none⟩ = some (.int .i64 s.len)
theorem S5.of {w : World} {b o : Nat} {s : Slt} (h : ∀ j u, s.cells[j]? = some u → w.cell? ⟨b, o + j, none⟩ = some u) : S5 w b o s := ⟨h 0 _ rfl, h 1 _ rfl, h 2 _ rfl, h 3 _ rfl, h 4 _ rfl⟩
theorem S5.all {w : World} {b o : Nat} {s : Slt} (h : S5 w b o s) : ∀ j u, s.cells[j]? = some u → w.cell? ⟨b, o + j, none⟩ = some u := by
  intro j u hu
  match j, hu with
  | 0, hu => simp [Slt.cells] at hu; subst hu; exact h.c0
  | 1, hu => simp [Slt.cells] at hu; subst hu; exact h.c1
  | 2, hu => simp [Slt.cells] at hu; subst hu; exact h.c2
  | 3, hu => simp [Slt.cells] at hu; subst hu; exact h.c3
  | 4, hu => simp [Slt.cells] at hu; subst hu; exact h.c4
  | j + 5, hu => simp [Slt.cells] at hu
theorem S5.same {w w' : World} {b o : Nat} {s : Slt} (h : S5 w b o s) (e : w'.heap[b]? = w.heap[b]?) : S5 w' b o s := by
  refine S5.of fun j u hu => ?_
  rw [World.cell?_of_block (w := w) (a := ⟨b, o + j, none⟩) e]
  exact h.all j u hu
theorem S5.below {w w' : World} {b o : Nat} {s : Slt} (h : S5 w b o s) (hb : Below w.heap.size w w') : S5 w' b o s :=
  h.same (hb.block b (by have := World.block_lt_of_cell? w _ h.c0; exact this))

/-- A slice of n slots that can be read. -/
structure Tb (w : World) (ao : Option Addr) (n cap : Nat) (l : List Slt) : Prop where
  len : l.length = n
  room : n ≤ cap
  void : ao = none → cap = 0
  here : 0 < n → ∃ b off, ao = some ⟨b, off, none⟩ ∧ b < w.heap.size ∧ ∀ i, i < n → S5 w b (off + i * 5) (sg l i)
  rg : ∀ s ∈ l, RgS s
theorem Tb.rgs {w : World} {ao : Option Addr} {n cap : Nat} {l : List Slt} (h : Tb w ao n cap l) {i : Nat} (hi : i < n) : RgS (sg l i) := h.rg _ (sg_mem (by rw [h.len]; exact hi))
theorem Tb.below {w w' : World} {ao : Option Addr} {n cap : Nat} {l : List Slt} (h : Tb w ao n cap l) (hb : Below w.heap.size w w') : Tb w' ao n cap l := by
  refine ⟨h.len, h.room, h.void, fun hn => ?_, h.rg⟩
  obtain ⟨b, off, e, hlt, hc⟩ := h.here hn
  exact ⟨b, off, e, Nat.lt_of_lt_of_le hlt hb.size, fun i hi => (hc i hi).below hb⟩
theorem Tb.off {F : Nat → Prop} {w w' : World} {ao : Option Addr} {n cap : Nat} {l : List Slt} (h : Tb w ao n cap l) (ho : Off F w w') (hno : 0 < n → ∀ c, ao = some c → ¬ F c.block) : Tb w' ao n cap l := by
  refine ⟨h.len, h.room, h.void, fun hn => ?_, h.rg⟩
  obtain ⟨b, off, e, hlt, hc⟩ := h.here hn
  exact ⟨b, off, e, Nat.lt_of_lt_of_le hlt ho.size, fun i hi => (hc i hi).same (ho.block b hlt (hno hn _ e))⟩
/-- A slot of one, at a later world. -/
theorem Tb.at {w wr : World} {b off n cap : Nat} {l : List Slt} (h : Tb w (some ⟨b, off, none⟩) n cap l) (hb : Below w.heap.size w wr) {i : Nat} (hi : i < n) : S5 wr b (off + i * 5) (sg l i) := by
  obtain ⟨b', o', e, _, hc⟩ := (h.below hb).here (by omega)
  simp only [Option.some.injEq, Addr.mk.injEq, and_true] at e
  obtain ⟨rfl, rfl⟩ := e
  exact hc i hi
theorem tb_nil (w : World) : Tb w none 0 0 [] := ⟨rfl, Nat.le_refl _, fun _ => rfl, fun h => absurd h (by omega), fun s hs => by cases hs⟩
/-- The cells of a part of one. -/
theorem Tb.part {w : World} {b off n cap : Nat} {l : List Slt} (h : Tb w (some ⟨b, off, none⟩) n cap l) (i m : Nat) (hm : i + m ≤ n) :
    ∀ j u, (cellsT ((l.drop i).take m))[j]? = some u → w.cell? ((⟨b, off + i * 5, none⟩ : Addr).add j) = some u := by
  intro j u hu
  have hlen := h.len
  have hl : ((l.drop i).take m).length = m := by simp; omega
  have hj : j < m * 5 := by
    have := (List.getElem?_eq_some_iff.1 hu).1
    rw [cellsT_length, hl] at this
    exact this
  have hs := h.at (Below.refl _ _) (i := i + j / 5) (by omega)
  have hg := cellsT_get ((l.drop i).take m) (i := j / 5) (j := j % 5) (by omega) (Nat.mod_lt _ (by omega))
  rw [show j / 5 * 5 + j % 5 = j by omega, hu] at hg
  have e : sg ((l.drop i).take m) (j / 5) = sg l (i + j / 5) := by
    simp only [sg, List.getD]
    rw [List.getElem?_take, if_pos (by omega), List.getElem?_drop]
  rw [e] at hg
  have := hs.all (j % 5) u hg.symm
  rw [Addr.add_lit]
  rw [show off + (i + j / 5) * 5 + j % 5 = off + i * 5 + j by omega] at this
  exact this

/-- A slice of n slots at the head of a row of the call's own, in a block from B on; or a nil one. -/
structure OwT (B : Nat) (w : World) (ao : Option Addr) (n cap : Nat) (l : List Slt) : Prop where
  len : l.length = n
  row : w.ownsRow B 55 5 (.slice ao n cap) n (cellsT l)
  rg : ∀ s ∈ l, RgS s
theorem owT_nil (B : Nat) (w : World) : OwT B w none 0 0 [] := ⟨rfl, World.ownsRow_nil _ _ _ _, fun s hs => by cases hs⟩
theorem OwT.below {B : Nat} {w w' : World} {ao : Option Addr} {n cap : Nat} {l : List Slt} (h : OwT B w ao n cap l) (hb : Below w.heap.size w w') : OwT B w' ao n cap l := by
  refine ⟨h.len, ⟨h.row.1, ?_⟩, h.rg⟩
  rcases h.row.2 with hn | ⟨g, cap', cur, hv, hg, hh, r⟩
  · exact Or.inl hn
  · refine Or.inr ⟨g, cap', cur, hv, hg, ?_, r⟩
    rw [hb.block g (Array.getElem?_eq_some_iff.1 hh).1]
    exact hh
theorem OwT.mono {B B' : Nat} {w : World} {ao : Option Addr} {n cap : Nat} {l : List Slt} (h : OwT B w ao n cap l) (hB : B' ≤ B) : OwT B' w ao n cap l := by
  refine ⟨h.len, ⟨h.row.1, ?_⟩, h.rg⟩
  rcases h.row.2 with hn | ⟨g, cap', cur, hv, hg, r⟩
  · exact Or.inl hn
  · exact Or.inr ⟨g, cap', cur, hv, Nat.le_trans hB hg, r⟩
theorem OwT.tb {B : Nat} {w : World} {ao : Option Addr} {n cap : Nat} {l : List Slt} (h : OwT B w ao n cap l) : Tb w ao n cap l := by
  rcases h.row.2 with ⟨hv, hn⟩ | ⟨g, cap', cur, hv, hg, hh, hc, hm, hs, ht⟩
  · simp only [Value.slice.injEq] at hv
    obtain ⟨rfl, rfl, rfl⟩ := hv
    exact ⟨h.len, Nat.le_refl _, fun _ => rfl, fun h => absurd h (by omega), h.rg⟩
  · simp only [Value.slice.injEq] at hv
    obtain ⟨rfl, _, rfl⟩ := hv
    refine ⟨h.len, hc, (by intro h; cases h), fun _ => ⟨g, 0, rfl, (Array.getElem?_eq_some_iff.1 hh).1, fun i hi => S5.of fun j u hu => ?_⟩, h.rg⟩
    have hj : j < 5 := (List.getElem?_eq_some_iff.1 hu).1
    have hlen := h.len
    have h1 := cellsT_get l (i := i) (j := j) (by omega) hj
    rw [hu, ← ht, List.getElem?_take, if_pos (by omega), Array.getElem?_toList] at h1
    rw [Nat.zero_add, cell_of_row w g _ cur 55 (0, 0) hh]
    exact h1
theorem OwT.cap_le {B : Nat} {w : World} {ao : Option Addr} {n cap : Nat} {l : List Slt} (h : OwT B w ao n cap l) : n ≤ cap ∧ cap ≤ 9223372036854775807 := by
  rcases h.row.2 with ⟨hv, hn⟩ | ⟨g, cap', cur, hv, hg, hh, hc, hm, r⟩
  · simp only [Value.slice.injEq] at hv
    obtain ⟨rfl, rfl, rfl⟩ := hv
    exact ⟨Nat.le_refl _, by omega⟩
  · simp only [Value.slice.injEq] at hv
    obtain ⟨rfl, _, rfl⟩ := hv
    exact ⟨hc, by simpa [maxLen] using hm⟩
theorem OwT.shape {B : Nat} {w : World} {ao : Option Addr} {n cap : Nat} {l : List Slt} (h : OwT B w ao n cap l) (hn : 0 < n) : ∃ g, ao = some ⟨g, 0, none⟩ ∧ B ≤ g ∧ g < w.heap.size := by
  rcases h.row.2 with ⟨hv, h0⟩ | ⟨g, cap', cur, hv, hg, hh, _⟩
  · omega
  · simp only [Value.slice.injEq] at hv
    exact ⟨g, hv.1, hg, (Array.getElem?_eq_some_iff.1 hh).1⟩
theorem OwT.off {F : Nat → Prop} {B : Nat} {w w' : World} {ao : Option Addr} {n cap : Nat} {l : List Slt} (h : OwT B w ao n cap l) (ho : Off F w w') (hno : ∀ c, ao = some c → ¬ F c.block) : OwT B w' ao n cap l := by
  refine ⟨h.len, ⟨h.row.1, ?_⟩, h.rg⟩
  rcases h.row.2 with hn | ⟨g, cap', cur, hv, hg, hh, r⟩
  · exact Or.inl hn
  · refine Or.inr ⟨g, cap', cur, hv, hg, ?_, r⟩
    have e1 : ao = some ⟨g, 0, none⟩ := by simp only [Value.slice.injEq] at hv; exact hv.1
    rw [ho.block g (Array.getElem?_eq_some_iff.1 hh).1 (hno _ e1)]
    exact hh
theorem cellsT_set (l : List Slt) (k : Nat) (s : Slt) (h : k < l.length) : cellsT (l.set k s) = (((((cellsT l).set (k * 5) (.int .i64 s.gen)).set (k * 5 + 1) (.bool s.live)).set (k * 5 + 2) (.bool s.two)).set (k * 5 + 3) (.int .i64 s.pos)).set (k * 5 + 4) (.int .i64 s.len) := by
  apply List.ext_getElem?
  intro i
  by_cases hi : i < l.length * 5
  · have g1 := cellsT_get (l.set k s) (i := i / 5) (j := i % 5) (by rw [List.length_set]; omega) (Nat.mod_lt _ (by omega))
    have g2 := cellsT_get l (i := i / 5) (j := i % 5) (by omega) (Nat.mod_lt _ (by omega))
    rw [show i / 5 * 5 + i % 5 = i by omega] at g1 g2
    rw [g1]
    simp only [List.getElem?_set, List.length_set, cellsT_length]
    by_cases e : i / 5 = k
    · rw [e, sg_set_same l k s h]
      rcases (show i % 5 = 0 ∨ i % 5 = 1 ∨ i % 5 = 2 ∨ i % 5 = 3 ∨ i % 5 = 4 by omega) with e1 | e1 | e1 | e1 | e1
      · rw [e1, if_neg (by omega), if_neg (by omega), if_neg (by omega), if_neg (by omega), if_pos (by omega), if_pos (by omega)]; rfl
      · rw [e1, if_neg (by omega), if_neg (by omega), if_neg (by omega), if_pos (by omega), if_pos (by omega)]; rfl
      · rw [e1, if_neg (by omega), if_neg (by omega), if_pos (by omega), if_pos (by omega)]; rfl
      · rw [e1, if_neg (by omega), if_pos (by omega), if_pos (by omega)]; rfl
      · rw [e1, if_pos (by omega), if_pos (by omega)]; rfl
    · rw [sg_set_other l k _ s (Ne.symm e), if_neg (by omega), if_neg (by omega), if_neg (by omega), if_neg (by omega), if_neg (by omega), g2]
  · rw [List.getElem?_eq_none (by rw [cellsT_length, List.length_set]; omega), List.getElem?_eq_none (by simp [cellsT_length]; omega)]
/-- A slot laid into a row of the call's own. -/
theorem OwT.set {B : Nat} {w : World} {g n cap : Nat} {l : List Slt} (h : OwT B w (some ⟨g, 0, none⟩) n cap l) {k : Nat} (hk : k < n) {s : Slt} (hs : RgS s) :
    OwT B (((((w.setCell ⟨g, k * 5, none⟩ (.int .i64 s.gen)).setCell ⟨g, k * 5 + 1, none⟩ (.bool s.live)).setCell ⟨g, k * 5 + 2, none⟩ (.bool s.two)).setCell ⟨g, k * 5 + 3, none⟩ (.int .i64 s.pos)).setCell ⟨g, k * 5 + 4, none⟩ (.int .i64 s.len)) (some ⟨g, 0, none⟩) n cap (l.set k s) := by
  have hl := h.len
  refine ⟨by rw [List.length_set]; exact hl, ?_, fun x hx => ?_⟩
  · rw [cellsT_set l k s (by omega)]
    exact (((((h.row.stored _ _).1.stored _ _).1.stored _ _).1.stored _ _).1.stored _ _).1
  · rcases List.mem_or_eq_of_mem_set hx with hx | rfl
    · exact h.rg x hx
    · exact hs
theorem OwT.free {B : Nat} {w : World} {g n cap : Nat} {l : List Slt} (h : OwT B w (some ⟨g, 0, none⟩) n cap l) (j : Nat) : w.frozen? ⟨g, j, none⟩ = false := h.row.frozenAt j
theorem Tryz.info55 : (Tryz.prog.info? 55).map (fun i => (i.zero, i.size, i.bytes)) = some (some (.agg #[.int .i64 0, .bool false, .bool false, .int .i64 0, .int .i64 0]), 5, 32) := by kernel_rfl
theorem own_sliceT {w : World} {B : Nat} {e : TypeId} {s : Nat} {v : Value} {n : Nat} {xs : List Value} (h : w.ownsRow B e s v n xs) : ∃ bo c, v = .slice bo n c := by
  rcases h.2 with ⟨h0, hn⟩ | ⟨g, cap, cur, rfl, _⟩
  · subst hn
    exact ⟨none, 0, h0⟩
  · exact ⟨_, _, rfl⟩
/-- 'append(l, e...)': l of the call's own, or nil; e can be read, or nil. -/
theorem append_tb {w : World} {ops : Array Oper} {rest : List Oper} {o : Oper} {a : Act} {Q : Exit → Act → World → Prop} (hgd : o.guard = none) (s x : Operand)
    (ho : o.op = .call { callee := .builtin .append, args := #[s, x], argTypes := #[24, 24] })
    (B : Nat) (v : Value) (n : Nat) (xs : List Slt) (hs : a.eval s = v) (hown : w.ownsRow B 55 5 v n (cellsT xs)) (hxr : ∀ s ∈ xs, RgS s)
    (so : Option Addr) (m c : Nat) (zs : List Slt) (hx : a.eval x = .slice so m c) (hsl : Tb w so m c zs) (hb : (n + m) * 32 ≤ 140737488355328) (hB : B ≤ w.heap.size)
    (h : ∀ bo c' w', OwT B w' bo (n + m) c' (xs ++ zs) → w.grownBy w' v.ownBlock → wpList Tryz.prog ops Q rest (a.put o.dst (.slice bo (n + m) c')) w') : wpList Tryz.prog ops Q (o :: rest) a w := by
  obtain ⟨i0, hi, hz0, hz1, hz2⟩ := info_parts Tryz.info55
  have hxl : xs.length = n := by have := hown.1; rw [cellsT_length] at this; omega
  have hzl := hsl.len
  have hrr : ∀ s ∈ xs ++ zs, RgS s := fun s hs => by
    rcases List.mem_append.1 hs with hs | hs
    · exact hxr s hs
    · exact hsl.rg s hs
  cases so with
  | none =>
    obtain rfl : c = 0 := hsl.void rfl
    obtain rfl : m = 0 := by have := hsl.room; omega
    obtain rfl : zs = [] := List.eq_nil_of_length_eq_zero hzl
    obtain ⟨bo, c', rfl⟩ := own_sliceT hown
    refine wpList_append_own_none hgd s x 24 ho B 55 i0 5 Tryz.underlying24 hi _ n _ hs hown hx ?_
    have := h bo c' w ⟨by simpa using hxl, by simpa using hown, hrr⟩ (World.grownBy.refl _ _)
    simpa using this
  | some ad =>
    have hcs : ∀ j u, (cellsT zs)[j]? = some u → w.cell? (ad.add j) = some u := by
      intro j u hu
      have hj : 0 < m := by
        have := (List.getElem?_eq_some_iff.1 hu).1
        rw [cellsT_length] at this
        omega
      obtain ⟨b, off, e, _, _⟩ := hsl.here hj
      simp only [Option.some.injEq] at e
      subst e
      have := hsl.part 0 m (by omega) j u (by rw [List.drop_zero, List.take_of_length_le (by omega)]; exact hu)
      simpa using this
    refine wpList_append_own _ hgd s x 24 ho B 55 i0 (.agg #[.int .i64 0, .bool false, .bool false, .int .i64 0, .int .i64 0]) 5 32 Tryz.underlying24 hi hz0 hz1 hz2 rfl (by decide) v n _ hs hown ad m c (cellsT zs) hx (by rw [cellsT_length, hzl]) hcs (cellsT_one _) (by unfold maxLen; omega) (by omega) hB ?_
    intro v' w' hown' hgrow hnil
    obtain ⟨bo, c', rfl⟩ := own_sliceT hown'
    exact h bo c' w' ⟨by simp [hxl, hzl], by rw [cellsT_append]; exact hown', hrr⟩ hgrow
end Go.Proofs.YtpbljjbhfhfmgaaGreatDoor
/- append of bytes onto a row of the call's own. -/
namespace Go.Proofs.YtpbljjbhfhfmgaaGreatDoor
set_option maxRecDepth 100000
open Go.RowKit

theorem own_slice {w : World} {B : Nat} {e : TypeId} {v : Value} {n : Nat} {xs : List Value} (h : w.ownsRow B e 1 v n xs) : ∃ bo c, v = .slice bo n c := by
  rcases h.2 with ⟨h0, hn⟩ | ⟨g, cap, cur, rfl, _⟩
  · subst hn
    exact ⟨none, 0, h0⟩
  · exact ⟨_, _, rfl⟩
theorem Sl.cells {k : IntKind} {w : World} {a : Addr} {n cap : Nat} {zs : List Int} (h : Sl k w (some a) n cap zs) : ∀ j u, (zs.map (Value.int k))[j]? = some u → w.cell? (a.add j) = some u := by
  intro j u hu
  have hlen := h.len
  have hj : j < n := by
    have := (List.getElem?_eq_some_iff.1 hu).1
    rw [List.length_map] at this
    omega
  obtain ⟨b', off', e, _, hc⟩ := h.here (by omega)
  simp only [Option.some.injEq] at e
  subst e
  have hj' : j < zs.length := by omega
  rw [Addr.add_lit, hc j hj]
  simp only [List.getElem?_map, List.getElem?_eq_getElem hj', Option.map_some, Option.some.injEq] at hu
  subst hu
  simp [List.getD, List.getElem?_eq_getElem hj']

/-- 'append(s, x...)': s of the call's own, or nil; x can be read, or nil. -/
theorem append_sl {w : World} {ops : Array Oper} {rest : List Oper} {o : Oper} {a : Act} {Q : Exit → Act → World → Prop} (hgd : o.guard = none) (s x : Operand)
    (ho : o.op = .call { callee := .builtin .append, args := #[s, x], argTypes := #[48, 48] })
    (B : Nat) (v : Value) (n : Nat) (xs : List Int) (hs : a.eval s = v) (hown : w.ownsRow B 5 1 v n (xs.map (Value.int .u8)))
    (ao : Option Addr) (m c : Nat) (zs : List Int) (hx : a.eval x = .slice ao m c) (hsl : Sl .u8 w ao m c zs) (hb : n + m ≤ 140737488355328) (hB : B ≤ w.heap.size)
    (h : ∀ bo c' w', Own .u8 5 B w' bo (n + m) c' (xs ++ zs) → w.grownBy w' v.ownBlock → (bo = none → v = .slice none 0 0) → wpList Tryz.prog ops Q rest (a.put o.dst (.slice bo (n + m) c')) w') : wpList Tryz.prog ops Q (o :: rest) a w := by
  obtain ⟨i0, hi, hz0, hz1, hz2⟩ := info_parts Tryz.info5
  have hxl : xs.length = n := by have := hown.1; simpa using this
  cases ao with
  | none =>
    obtain rfl : c = 0 := hsl.void rfl
    obtain rfl : m = 0 := by have := hsl.room; omega
    have hz : zs = [] := List.eq_nil_of_length_eq_zero hsl.len
    subst hz
    obtain ⟨bo, c', rfl⟩ := own_slice hown
    refine wpList_append_own_none hgd s x 48 ho B 5 i0 1 Tryz.underlying48 hi _ n _ hs hown hx ?_
    have := h bo c' w ⟨by simpa using hxl, by simpa using hown⟩ (World.grownBy.refl _ _) (fun hbo => by
      subst hbo
      rcases hown.2 with ⟨h0, _⟩ | ⟨g, cap, cur, h1, _⟩
      · exact h0
      · simp at h1)
    simpa using this
  | some ad =>
    refine wpList_append_own _ hgd s x 48 ho B 5 i0 (.int .u8 0) 1 1 Tryz.underlying48 hi hz0 hz1 hz2 rfl (by decide) v n _ hs hown ad m c (zs.map (Value.int .u8)) hx (by simp [hsl.len]) hsl.cells (ints_oneCell _ _) (by unfold maxLen; omega) (by omega) hB ?_
    intro v' w' hown' hgrow hnil
    obtain ⟨bo, c', rfl⟩ := own_slice hown'
    refine h bo c' w' ⟨by simp [hxl, hsl.len], by simpa using hown'⟩ hgrow (fun hbo => ?_)
    subst hbo
    rcases hown'.2 with ⟨h0, _⟩ | ⟨g, cap, cur, h1, _⟩
    · exact (hnil.1 h0).1
    · simp at h1

end Go.Proofs.YtpbljjbhfhfmgaaGreatDoor
/- append of numbers onto a row of the call's own. -/
namespace Go.Proofs.YtpbljjbhfhfmgaaGreatDoor
set_option maxRecDepth 100000
open Go.RowKit

theorem sl_int (w : World) (k : Nat) (x : Int) (hk : w.heap.size = k) : Sl .i64 (w.alloc (.cells #[.int .i64 x] 3)) (some ⟨k, 0, none⟩) 1 1 [x] := by
  subst hk
  refine ⟨rfl, Nat.le_refl _, (by intro h; cases h), fun _ => ⟨_, _, rfl, by simp, fun i hi => ?_⟩⟩
  obtain rfl : i = 0 := by omega
  simp
/-- 'append(s, x...)': s of the call's own, or nil; x can be read, or nil. -/
theorem append_il {w : World} {ops : Array Oper} {rest : List Oper} {o : Oper} {a : Act} {Q : Exit → Act → World → Prop} (hgd : o.guard = none) (s x : Operand)
    (ho : o.op = .call { callee := .builtin .append, args := #[s, x], argTypes := #[33, 33] })
    (B : Nat) (v : Value) (n : Nat) (xs : List Int) (hs : a.eval s = v) (hown : w.ownsRow B 3 1 v n (xs.map (Value.int .i64)))
    (ao : Option Addr) (m c : Nat) (zs : List Int) (hx : a.eval x = .slice ao m c) (hsl : Sl .i64 w ao m c zs) (hb : (n + m) * 8 ≤ 140737488355328) (hB : B ≤ w.heap.size)
    (h : ∀ bo c' w', Own .i64 3 B w' bo (n + m) c' (xs ++ zs) → w.grownBy w' v.ownBlock → (bo = none → v = .slice none 0 0) → wpList Tryz.prog ops Q rest (a.put o.dst (.slice bo (n + m) c')) w') : wpList Tryz.prog ops Q (o :: rest) a w := by
  obtain ⟨i0, hi, hz0, hz1, hz2⟩ := info_parts Tryz.info3
  have hxl : xs.length = n := by have := hown.1; simpa using this
  cases ao with
  | none =>
    obtain rfl : c = 0 := hsl.void rfl
    obtain rfl : m = 0 := by have := hsl.room; omega
    have hz : zs = [] := List.eq_nil_of_length_eq_zero hsl.len
    subst hz
    obtain ⟨bo, c', rfl⟩ := own_slice hown
    refine wpList_append_own_none hgd s x 33 ho B 3 i0 1 Tryz.underlying33 hi _ n _ hs hown hx ?_
    have := h bo c' w ⟨by simpa using hxl, by simpa using hown⟩ (World.grownBy.refl _ _) (fun hbo => by
      subst hbo
      rcases hown.2 with ⟨h0, _⟩ | ⟨g, cap, cur, h1, _⟩
      · exact h0
      · simp at h1)
    simpa using this
  | some ad =>
    refine wpList_append_own _ hgd s x 33 ho B 3 i0 (.int .i64 0) 1 8 Tryz.underlying33 hi hz0 hz1 hz2 rfl (by decide) v n _ hs hown ad m c (zs.map (Value.int .i64)) hx (by simp [hsl.len]) hsl.cells (ints_oneCell _ _) (by unfold maxLen; omega) (by omega) hB ?_
    intro v' w' hown' hgrow hnil
    obtain ⟨bo, c', rfl⟩ := own_slice hown'
    refine h bo c' w' ⟨by simp [hxl, hsl.len], by simpa using hown'⟩ hgrow (fun hbo => ?_)
    subst hbo
    rcases hown'.2 with ⟨h0, _⟩ | ⟨g, cap, cur, h1, _⟩
    · exact (hnil.1 h0).1
    · simp at h1

end Go.Proofs.YtpbljjbhfhfmgaaGreatDoor
/- table.sized, holds, may, open, New and Right by their contracts. -/
namespace Go.Proofs.YtpbljjbhfhfmgaaGreatDoor
set_option maxRecDepth 100000
open Go.RowKit
set_option linter.unusedVariables false
set_option linter.unusedSimpArgs false

/-- A slot by value. -/
def Slt.v (s : Slt) : Value := .agg #[.int .i64 s.gen, .bool s.live, .bool s.two, .int .i64 s.pos, .int .i64 s.len]
/-- A slot in a block of its own. -/
def Slt.obj (s : Slt) : Obj := .cells #[.int .i64 s.gen, .bool s.live, .bool s.two, .int .i64 s.pos, .int .i64 s.len] 55
theorem sized_any (n : Int) (w : World) :
    Calls Tryz.prog 73 #[.int .i64 n] w fun e w' => e = .returned (.bool (sizB n)) ∧ w = w' := by
  go_enter Tryz.func73, Tryz.ntmps73
  go_wp2
  all_goals (go_ret; refine ⟨ret_bool ?_, rfl⟩)
  all_goals (rw [Bool.eq_iff_iff, sizB_iff]; simp [SizT]; omega)
theorem may_any (s : Slt) (w : World) :
    Calls Tryz.prog 74 #[.agg #[.int .i64 s.gen, .bool s.live, .bool s.two, .int .i64 s.pos, .int .i64 s.len]] w fun e w' => e = .returned (.bool (mayB s)) ∧ Below w.heap.size w w' := by
  obtain ⟨g, l, t, p, n⟩ := s
  cases l <;> cases t
  all_goals
    go_enter Tryz.func74, Tryz.ntmps74
    go_wp2
    all_goals (go_ret; refine ⟨ret_bool ?_, (Below.refl _ w).alloc (Nat.le_refl _) _⟩)
    all_goals (rw [Bool.eq_iff_iff]; simp only [mayB, MayS, decide_eq_true_eq, beq_iff_eq, Bool.false_eq_true, false_iff, true_and, false_and, or_false, false_or, and_false, Bool.true_eq_false]; try omega)
theorem made_slots (n : Nat) : (madeCells #[Value.int .i64 0, .bool false, .bool false, .int .i64 0, .int .i64 0] (n * 5)).toList = cellsT (List.replicate n Slt.z) := by
  apply List.ext_getElem?
  intro i
  by_cases hi : i < n * 5
  · have g2 := cellsT_get (List.replicate n Slt.z) (i := i / 5) (j := i % 5) (by simp; omega) (Nat.mod_lt _ (by omega))
    rw [show i / 5 * 5 + i % 5 = i by omega] at g2
    rw [g2]
    have e : sg (List.replicate n Slt.z) (i / 5) = Slt.z := by simp [sg, List.getD, show i / 5 < n by omega]
    rw [e]
    have hsz : (madeCells #[Value.int .i64 0, .bool false, .bool false, .int .i64 0, .int .i64 0] (n * 5)).size = n * 5 := by simp [madeCells]
    rcases (show i % 5 = 0 ∨ i % 5 = 1 ∨ i % 5 = 2 ∨ i % 5 = 3 ∨ i % 5 = 4 by omega) with e1 | e1 | e1 | e1 | e1 <;>
      simp [madeCells, hi, e1, Slt.cells, Slt.z]
  · rw [List.getElem?_eq_none (by simp [madeCells]; omega), List.getElem?_eq_none (by rw [cellsT_length]; simp; omega)]
theorem rgs_z : RgS Slt.z := ⟨by unfold Rg; decide, by unfold Rg; decide, by unfold Rg; decide⟩
theorem new_any (n : Int) (w : World) :
    Calls Tryz.prog 61 #[.int .i64 n] w fun e w' => ∃ ao m c, e = .returned (.tuple #[.slice ao m c, .int .i64 (nwE n)]) ∧ OwT w.heap.size w' ao m c (nwL n) ∧ Below w.heap.size w w' := by
  obtain ⟨i0, hi, hz0, hz1, hz2⟩ := info_parts Tryz.info55
  by_cases h : SizT n
  · obtain ⟨h1, h2, h3⟩ := h
    obtain ⟨m, rfl⟩ := Int.eq_ofNat_of_zero_le (show 0 ≤ n by omega)
    have hs := sizB_t (n := (m : Int)) ⟨h1, h2, h3⟩
    obtain ⟨e1, e2⟩ := nw_t (n := (m : Int)) ⟨h1, h2, h3⟩
    rw [e1, e2, Int.toNat_natCast]
    clear e1 e2
    go_enter Tryz.func61, Tryz.ntmps61
    go_wp2_with (first
      | (go_at_call 73; with_reducible refine (sized_any _ _).mono ?_; rintro e w' ⟨rfl, rfl⟩; rw [hs])
      | (at_make; refine wpList_make_full _ rfl _ _ 24 rfl w.heap.size 55 i0 (.agg #[.int .i64 0, .bool false, .bool false, .int .i64 0, .int .i64 0]) 5 Tryz.underlying24 hi hz0 hz1 .i64 .i64 _ _ m rfl rfl rfl rfl ?b2 ?b3 ?b4 ?_))
    case b2 => rw [hz2]; omega
    case b3 => unfold maxLen; omega
    case b4 => exact Nat.le_refl _
    intro w1 hown hgrow
    have hown' : OwT w.heap.size w1 (some ⟨w.heap.size, 0, none⟩) m m (List.replicate m Slt.z) := ⟨by simp, by rw [← made_slots]; exact hown, fun s hs => by rw [List.eq_of_mem_replicate hs]; exact rgs_z⟩
    have hbel : Below w.heap.size w w1 := (Below.refl _ _).grown hgrow (Nat.le_refl _) (by intro k hk; cases hk)
    clear hown hgrow
    go_wp2
    go_ret2
    exact ⟨_, _, _, rfl, hown', hbel⟩
  · have hs := sizB_f h
    obtain ⟨e1, e2⟩ := nw_f h
    rw [e1, e2]
    clear h
    go_enter Tryz.func61, Tryz.ntmps61
    go_wp2_with (first
      | (go_at_call 73; with_reducible refine (sized_any _ _).mono ?_; rintro e w' ⟨rfl, rfl⟩; rw [hs]))
    go_ret2
    exact ⟨none, 0, 0, rfl, owT_nil _ _, Below.refl _ _⟩
set_option maxRecDepth 100000 in
theorem right_tb (ao : Option Addr) (n cap : Nat) (l : List Slt) (w : World) (h : Tb w ao n cap l) (hn : n ≤ 9223372036854775807) :
    Calls Tryz.prog 45 #[.slice ao n cap] w fun e w' => e = .returned (.bool (rightB l)) ∧ Below w.heap.size w w' := by
  have hl := h.len
  by_cases hs : SizT (n : Int)
  · have hsb := sizB_t hs
    go_enter Tryz.func45, Tryz.ntmps45
    go_wp2_with (go_at_call 73; with_reducible refine (sized_any _ _).mono ?_; rintro e w' ⟨rfl, rfl⟩; rw [hsb])
    go_loopw [11] (fun t wr => ∃ k : Nat, k ≤ n ∧ t = .int .i64 k ∧ Hid (∀ i, i < k → MayS (sg l i)) ∧ Below w.heap.size w wr) (fun t _ => n - (intOf t).toNat)
    case atStart => exact ⟨0, Nat.zero_le _, rfl, hid (fun i hi => by omega), Below.refl _ _⟩
    case round =>
      obtain ⟨k, hk, rfl, HK, hb⟩ := hrel
      by_cases hlt : k < n
      · obtain ⟨b, off, rfl, _, _⟩ := h.here (by omega)
        obtain ⟨c0, c1, c2, c3, c4⟩ := h.at hb hlt
        have hki : (k : Int) < (n : Int) := by omega
        have HT : Hid (MayS (sg l k) → ∀ i, i < k + 1 → MayS (sg l i)) := fun hm i hi => by
          by_cases e : i = k
          · rw [e]; exact hm
          · exact HK.out i (by omega)
        have HF : Hid (¬ MayS (sg l k) → false = rightB l) := fun hm => (rightB_f (fun hr => hm (hr.may (by omega)))).symm
        have hbA : Below w.heap.size w (wr.alloc (sg l k).obj) := hb.alloc hb.size _
        have cM := may_any (sg l k)
        generalize sg l k = s at *
        obtain ⟨g, lv, tw, p, ln⟩ := s
        simp only at c0 c1 c2 c3 c4 cM
        clear HK h hsb hs
        by_cases hm : MayS ⟨g, lv, tw, p, ln⟩
        · rw [mayB_t hm] at cM
          go_wp2_with (go_at_call 74; with_reducible refine (cM _).mono ?_; rintro e w3 ⟨rfl, hb3⟩)
          go_roundw
          case rel => exact ⟨k + 1, by omega, by go_num, hid (HT.out hm), next hbA hb3⟩
          case measure => simp [intOf]; omega
        · rw [mayB_f hm] at cM
          go_wp2_with (go_at_call 74; with_reducible refine (cM _).mono ?_; rintro e w3 ⟨rfl, hb3⟩)
          go_ret
          exact ⟨ret_bool (HF.out hm), next hbA hb3⟩
      · obtain rfl : k = n := by omega
        have HR : Hid (rightB l = true) := hid (rightB_t ⟨by rw [hl]; exact hs, may_all HK.out hl.symm⟩)
        go_wp2
        go_ret
        exact ⟨ret_bool HR.out.symm, hb⟩
  · have hsb := sizB_f hs
    have hr : rightB l = false := rightB_f (fun hr => hs (by have := hr.1; rwa [hl] at this))
    rw [hr]
    go_enter Tryz.func45, Tryz.ntmps45
    go_wp2_with (go_at_call 73; with_reducible refine (sized_any _ _).mono ?_; rintro e w' ⟨rfl, rfl⟩; rw [hsb])
    go_ret
    exact ⟨rfl, Below.refl _ _⟩
end Go.Proofs.YtpbljjbhfhfmgaaGreatDoor
/- Slices of blocks (three numbers each) that can be read. -/
namespace Go.Proofs.YtpbljjbhfhfmgaaGreatDoor
set_option maxRecDepth 100000
open Go.RowKit
set_option linter.unusedVariables false

def Blk.cells (s : Blk) : List Value := [.int .i64 s.pos, .int .i64 s.sz, .int .i64 s.ix]
def cellsB (l : List Blk) : List Value := l.flatMap Blk.cells
theorem Blk.cells_len (s : Blk) : s.cells.length = 3 := rfl
theorem cellsB_length (l : List Blk) : (cellsB l).length = l.length * 3 := by
  induction l with
  | nil => rfl
  | cons a r ih => simp only [cellsB, List.flatMap_cons, List.length_append, List.length_cons, Blk.cells_len]; simp only [cellsB] at ih; omega
theorem cellsB_append (a b : List Blk) : cellsB (a ++ b) = cellsB a ++ cellsB b := by simp [cellsB]
theorem cellsB_get (l : List Blk) {i j : Nat} (h : i < l.length) (hj : j < 3) : (cellsB l)[i * 3 + j]? = (ba l i).cells[j]? := by
  induction l generalizing i with
  | nil => simp at h
  | cons a r ih =>
    cases i with
    | zero =>
      simp only [cellsB, List.flatMap_cons]
      rw [Nat.zero_mul, Nat.zero_add, List.getElem?_append_left (by rw [Blk.cells_len]; exact hj)]
      rfl
    | succ i =>
      have := ih (i := i) (by simpa using h)
      simp only [cellsB, List.flatMap_cons] at this ⊢
      rw [List.getElem?_append_right (by rw [Blk.cells_len]; omega), Blk.cells_len, show (i + 1) * 3 + j - 3 = i * 3 + j by omega, this]
      rfl
theorem cellsB_one (l : List Blk) : ∀ u ∈ cellsB l, u.oneCell' = true := by
  intro u hu
  simp only [cellsB, List.mem_flatMap] at hu
  obtain ⟨s, _, hs⟩ := hu
  simp only [Blk.cells, List.mem_cons, List.not_mem_nil, or_false] at hs
  rcases hs with rfl | rfl | rfl <;> rfl

/-- Three cells are a block. -/
structure B3 (w : World) (b o : Nat) (s : Blk) : Prop where
  c0 : w.cell? ⟨b, o, none⟩ = some (.int .i64 s.pos)
  c1 : w.cell? ⟨b, o + 1, none⟩ = some (.int .i64 s.sz)
  c2 : w.cell? ⟨b, o + 2, none⟩ = some (.int .i64 s.ix)
theorem B3.of {w : World} {b o : Nat} {s : Blk} (h : ∀ j u, s.cells[j]? = some u → w.cell? ⟨b, o + j, none⟩ = some u) : B3 w b o s := ⟨h 0 _ rfl, h 1 _ rfl, h 2 _ rfl⟩
theorem B3.all {w : World} {b o : Nat} {s : Blk} (h : B3 w b o s) : ∀ j u, s.cells[j]? = some u → w.cell? ⟨b, o + j, none⟩ = some u := by
  intro j u hu
  match j, hu with
  | 0, hu => simp [Blk.cells] at hu; subst hu; exact h.c0
  | 1, hu => simp [Blk.cells] at hu; subst hu; exact h.c1
  | 2, hu => simp [Blk.cells] at hu; subst hu; exact h.c2
  | j + 3, hu => simp [Blk.cells] at hu
theorem B3.same {w w' : World} {b o : Nat} {s : Blk} (h : B3 w b o s) (e : w'.heap[b]? = w.heap[b]?) : B3 w' b o s := by
  refine B3.of fun j u hu => ?_
  rw [World.cell?_of_block (w := w) (a := ⟨b, o + j, none⟩) e]
  exact h.all j u hu
theorem B3.below {w w' : World} {b o : Nat} {s : Blk} (h : B3 w b o s) (hb : Below w.heap.size w w') : B3 w' b o s :=
  h.same (hb.block b (by have := World.block_lt_of_cell? w _ h.c0; exact this))

/-- A slice of n blocks that can be read. -/
structure Bs (w : World) (ao : Option Addr) (n cap : Nat) (l : List Blk) : Prop where
  len : l.length = n
  room : n ≤ cap
  void : ao = none → cap = 0
  here : 0 < n → ∃ b off, ao = some ⟨b, off, none⟩ ∧ b < w.heap.size ∧ ∀ i, i < n → B3 w b (off + i * 3) (ba l i)
  rg : ∀ s ∈ l, RgB s
theorem Bs.rgs {w : World} {ao : Option Addr} {n cap : Nat} {l : List Blk} (h : Bs w ao n cap l) {i : Nat} (hi : i < n) : RgB (ba l i) := h.rg _ (ba_mem (by rw [h.len]; exact hi))
theorem Bs.below {w w' : World} {ao : Option Addr} {n cap : Nat} {l : List Blk} (h : Bs w ao n cap l) (hb : Below w.heap.size w w') : Bs w' ao n cap l := by
  refine ⟨h.len, h.room, h.void, fun hn => ?_, h.rg⟩
  obtain ⟨b, off, e, hlt, hc⟩ := h.here hn
  exact ⟨b, off, e, Nat.lt_of_lt_of_le hlt hb.size, fun i hi => (hc i hi).below hb⟩
theorem Bs.off {F : Nat → Prop} {w w' : World} {ao : Option Addr} {n cap : Nat} {l : List Blk} (h : Bs w ao n cap l) (ho : Off F w w') (hno : 0 < n → ∀ c, ao = some c → ¬ F c.block) : Bs w' ao n cap l := by
  refine ⟨h.len, h.room, h.void, fun hn => ?_, h.rg⟩
  obtain ⟨b, off, e, hlt, hc⟩ := h.here hn
  exact ⟨b, off, e, Nat.lt_of_lt_of_le hlt ho.size, fun i hi => (hc i hi).same (ho.block b hlt (hno hn _ e))⟩
/-- A span of one, at a later world. -/
theorem Bs.at {w wr : World} {b off n cap : Nat} {l : List Blk} (h : Bs w (some ⟨b, off, none⟩) n cap l) (hb : Below w.heap.size w wr) {i : Nat} (hi : i < n) : B3 wr b (off + i * 3) (ba l i) := by
  obtain ⟨b', o', e, _, hc⟩ := (h.below hb).here (by omega)
  simp only [Option.some.injEq, Addr.mk.injEq, and_true] at e
  obtain ⟨rfl, rfl⟩ := e
  exact hc i hi
theorem bs_nil (w : World) : Bs w none 0 0 [] := ⟨rfl, Nat.le_refl _, fun _ => rfl, fun h => absurd h (by omega), fun s hs => by cases hs⟩
/-- The cells of a part of one. -/
theorem Bs.part {w : World} {b off n cap : Nat} {l : List Blk} (h : Bs w (some ⟨b, off, none⟩) n cap l) (i m : Nat) (hm : i + m ≤ n) :
    ∀ j u, (cellsB ((l.drop i).take m))[j]? = some u → w.cell? ((⟨b, off + i * 3, none⟩ : Addr).add j) = some u := by
  intro j u hu
  have hlen := h.len
  have hl : ((l.drop i).take m).length = m := by simp; omega
  have hj : j < m * 3 := by
    have := (List.getElem?_eq_some_iff.1 hu).1
    rw [cellsB_length, hl] at this
    exact this
  have hs := h.at (Below.refl _ _) (i := i + j / 3) (by omega)
  have hg := cellsB_get ((l.drop i).take m) (i := j / 3) (j := j % 3) (by omega) (Nat.mod_lt _ (by omega))
  rw [show j / 3 * 3 + j % 3 = j by omega, hu] at hg
  have e : ba ((l.drop i).take m) (j / 3) = ba l (i + j / 3) := by
    simp only [ba, List.getD]
    rw [List.getElem?_take, if_pos (by omega), List.getElem?_drop]
  rw [e] at hg
  have := hs.all (j % 3) u hg.symm
  rw [Addr.add_lit]
  rw [show off + (i + j / 3) * 3 + j % 3 = off + i * 3 + j by omega] at this
  exact this

theorem cellsB_set (l : List Blk) (k : Nat) (s : Blk) (h : k < l.length) : cellsB (l.set k s) = (((cellsB l).set (k * 3) (.int .i64 s.pos)).set (k * 3 + 1) (.int .i64 s.sz)).set (k * 3 + 2) (.int .i64 s.ix) := by
  apply List.ext_getElem?
  intro i
  by_cases hi : i < l.length * 3
  · have g1 := cellsB_get (l.set k s) (i := i / 3) (j := i % 3) (by rw [List.length_set]; omega) (Nat.mod_lt _ (by omega))
    have g2 := cellsB_get l (i := i / 3) (j := i % 3) (by omega) (Nat.mod_lt _ (by omega))
    rw [show i / 3 * 3 + i % 3 = i by omega] at g1 g2
    rw [g1]
    simp only [List.getElem?_set, List.length_set, cellsB_length]
    by_cases e : i / 3 = k
    · rw [e, ba_set_same l k s h]
      rcases (show i % 3 = 0 ∨ i % 3 = 1 ∨ i % 3 = 2 by omega) with e1 | e1 | e1
      · rw [e1, if_neg (by omega), if_neg (by omega), if_pos (by omega), if_pos (by omega)]; rfl
      · rw [e1, if_neg (by omega), if_pos (by omega), if_pos (by omega)]; rfl
      · rw [e1, if_pos (by omega), if_pos (by omega)]; rfl
    · rw [ba_set_other l k _ s (Ne.symm e), if_neg (by omega), if_neg (by omega), if_neg (by omega), g2]
  · rw [List.getElem?_eq_none (by rw [cellsB_length, List.length_set]; omega), List.getElem?_eq_none (by simp [cellsB_length]; omega)]
theorem own_sliceB {w : World} {B : Nat} {e : TypeId} {s : Nat} {v : Value} {n : Nat} {xs : List Value} (h : w.ownsRow B e s v n xs) : ∃ bo c, v = .slice bo n c := by
  rcases h.2 with ⟨h0, hn⟩ | ⟨g, cap, cur, rfl, _⟩
  · subst hn
    exact ⟨none, 0, h0⟩
  · exact ⟨_, _, rfl⟩
end Go.Proofs.YtpbljjbhfhfmgaaGreatDoor
/- Slices of blocks: one of the call's own. -/
namespace Go.Proofs.YtpbljjbhfhfmgaaGreatDoor
set_option maxRecDepth 100000
open Go.RowKit
set_option linter.unusedVariables false

/-- A slice of n blocks at the head of a row of the call's own, in a block from B on; or a nil one. -/
structure OwB (B : Nat) (w : World) (ao : Option Addr) (n cap : Nat) (l : List Blk) : Prop where
  len : l.length = n
  row : w.ownsRow B 70 3 (.slice ao n cap) n (cellsB l)
  rg : ∀ s ∈ l, RgB s
theorem owB_nil (B : Nat) (w : World) : OwB B w none 0 0 [] := ⟨rfl, World.ownsRow_nil _ _ _ _, fun s hs => by cases hs⟩
theorem OwB.below {B : Nat} {w w' : World} {ao : Option Addr} {n cap : Nat} {l : List Blk} (h : OwB B w ao n cap l) (hb : Below w.heap.size w w') : OwB B w' ao n cap l := by
  refine ⟨h.len, ⟨h.row.1, ?_⟩, h.rg⟩
  rcases h.row.2 with hn | ⟨g, cap', cur, hv, hg, hh, r⟩
  · exact Or.inl hn
  · refine Or.inr ⟨g, cap', cur, hv, hg, ?_, r⟩
    rw [hb.block g (Array.getElem?_eq_some_iff.1 hh).1]
    exact hh
theorem OwB.mono {B B' : Nat} {w : World} {ao : Option Addr} {n cap : Nat} {l : List Blk} (h : OwB B w ao n cap l) (hB : B' ≤ B) : OwB B' w ao n cap l := by
  refine ⟨h.len, ⟨h.row.1, ?_⟩, h.rg⟩
  rcases h.row.2 with hn | ⟨g, cap', cur, hv, hg, r⟩
  · exact Or.inl hn
  · exact Or.inr ⟨g, cap', cur, hv, Nat.le_trans hB hg, r⟩
theorem OwB.bs {B : Nat} {w : World} {ao : Option Addr} {n cap : Nat} {l : List Blk} (h : OwB B w ao n cap l) : Bs w ao n cap l := by
  rcases h.row.2 with ⟨hv, hn⟩ | ⟨g, cap', cur, hv, hg, hh, hc, hm, hs, ht⟩
  · simp only [Value.slice.injEq] at hv
    obtain ⟨rfl, rfl, rfl⟩ := hv
    exact ⟨h.len, Nat.le_refl _, fun _ => rfl, fun h => absurd h (by omega), h.rg⟩
  · simp only [Value.slice.injEq] at hv
    obtain ⟨rfl, _, rfl⟩ := hv
    refine ⟨h.len, hc, (by intro h; cases h), fun _ => ⟨g, 0, rfl, (Array.getElem?_eq_some_iff.1 hh).1, fun i hi => B3.of fun j u hu => ?_⟩, h.rg⟩
    have hj : j < 3 := (List.getElem?_eq_some_iff.1 hu).1
    have hlen := h.len
    have h1 := cellsB_get l (i := i) (j := j) (by omega) hj
    rw [hu, ← ht, List.getElem?_take, if_pos (by omega), Array.getElem?_toList] at h1
    rw [Nat.zero_add, cell_of_row w g _ cur 70 (0, 0) hh]
    exact h1
theorem OwB.cap_le {B : Nat} {w : World} {ao : Option Addr} {n cap : Nat} {l : List Blk} (h : OwB B w ao n cap l) : n ≤ cap ∧ cap ≤ 9223372036854775807 := by
  rcases h.row.2 with ⟨hv, hn⟩ | ⟨g, cap', cur, hv, hg, hh, hc, hm, r⟩
  · simp only [Value.slice.injEq] at hv
    obtain ⟨rfl, rfl, rfl⟩ := hv
    exact ⟨Nat.le_refl _, by omega⟩
  · simp only [Value.slice.injEq] at hv
    obtain ⟨rfl, _, rfl⟩ := hv
    exact ⟨hc, by simpa [maxLen] using hm⟩
theorem OwB.shape {B : Nat} {w : World} {ao : Option Addr} {n cap : Nat} {l : List Blk} (h : OwB B w ao n cap l) (hn : 0 < n) : ∃ g, ao = some ⟨g, 0, none⟩ ∧ B ≤ g ∧ g < w.heap.size := by
  rcases h.row.2 with ⟨hv, h0⟩ | ⟨g, cap', cur, hv, hg, hh, _⟩
  · omega
  · simp only [Value.slice.injEq] at hv
    exact ⟨g, hv.1, hg, (Array.getElem?_eq_some_iff.1 hh).1⟩
theorem OwB.off {F : Nat → Prop} {B : Nat} {w w' : World} {ao : Option Addr} {n cap : Nat} {l : List Blk} (h : OwB B w ao n cap l) (ho : Off F w w') (hno : ∀ c, ao = some c → ¬ F c.block) : OwB B w' ao n cap l := by
  refine ⟨h.len, ⟨h.row.1, ?_⟩, h.rg⟩
  rcases h.row.2 with hn | ⟨g, cap', cur, hv, hg, hh, r⟩
  · exact Or.inl hn
  · refine Or.inr ⟨g, cap', cur, hv, hg, ?_, r⟩
    have e1 : ao = some ⟨g, 0, none⟩ := by simp only [Value.slice.injEq] at hv; exact hv.1
    rw [ho.block g (Array.getElem?_eq_some_iff.1 hh).1 (hno _ e1)]
    exact hh
theorem OwB.free {B : Nat} {w : World} {g n cap : Nat} {l : List Blk} (h : OwB B w (some ⟨g, 0, none⟩) n cap l) (j : Nat) : w.frozen? ⟨g, j, none⟩ = false := h.row.frozenAt j
theorem Tryz.info70 : (Tryz.prog.info? 70).map (fun i => (i.zero, i.size, i.bytes)) = some (some (.agg #[.int .i64 0, .int .i64 0, .int .i64 0]), 3, 24) := by kernel_rfl
/-- 'append(l, e...)': l of the call's own, or nil; e can be read, or nil. -/
theorem append_bs {w : World} {ops : Array Oper} {rest : List Oper} {o : Oper} {a : Act} {Q : Exit → Act → World → Prop} (hgd : o.guard = none) (s x : Operand)
    (ho : o.op = .call { callee := .builtin .append, args := #[s, x], argTypes := #[39, 39] })
    (B : Nat) (v : Value) (n : Nat) (xs : List Blk) (hs : a.eval s = v) (hown : w.ownsRow B 70 3 v n (cellsB xs)) (hxr : ∀ s ∈ xs, RgB s)
    (so : Option Addr) (m c : Nat) (zs : List Blk) (hx : a.eval x = .slice so m c) (hsl : Bs w so m c zs) (hb : (n + m) * 24 ≤ 140737488355328) (hB : B ≤ w.heap.size)
    (h : ∀ bo c' w', OwB B w' bo (n + m) c' (xs ++ zs) → w.grownBy w' v.ownBlock → wpList Tryz.prog ops Q rest (a.put o.dst (.slice bo (n + m) c')) w') : wpList Tryz.prog ops Q (o :: rest) a w := by
  obtain ⟨i0, hi, hz0, hz1, hz2⟩ := info_parts Tryz.info70
  have hxl : xs.length = n := by have := hown.1; rw [cellsB_length] at this; omega
  have hzl := hsl.len
  have hrr : ∀ s ∈ xs ++ zs, RgB s := fun s hs => by
    rcases List.mem_append.1 hs with hs | hs
    · exact hxr s hs
    · exact hsl.rg s hs
  cases so with
  | none =>
    obtain rfl : c = 0 := hsl.void rfl
    obtain rfl : m = 0 := by have := hsl.room; omega
    obtain rfl : zs = [] := List.eq_nil_of_length_eq_zero hzl
    obtain ⟨bo, c', rfl⟩ := own_sliceB hown
    refine wpList_append_own_none hgd s x 39 ho B 70 i0 3 Tryz.underlying39 hi _ n _ hs hown hx ?_
    have := h bo c' w ⟨by simpa using hxl, by simpa using hown, hrr⟩ (World.grownBy.refl _ _)
    simpa using this
  | some ad =>
    have hcs : ∀ j u, (cellsB zs)[j]? = some u → w.cell? (ad.add j) = some u := by
      intro j u hu
      have hj : 0 < m := by
        have := (List.getElem?_eq_some_iff.1 hu).1
        rw [cellsB_length] at this
        omega
      obtain ⟨b, off, e, _, _⟩ := hsl.here hj
      simp only [Option.some.injEq] at e
      subst e
      have := hsl.part 0 m (by omega) j u (by rw [List.drop_zero, List.take_of_length_le (by omega)]; exact hu)
      simpa using this
    refine wpList_append_own _ hgd s x 39 ho B 70 i0 (.agg #[.int .i64 0, .int .i64 0, .int .i64 0]) 3 24 Tryz.underlying39 hi hz0 hz1 hz2 rfl (by decide) v n _ hs hown ad m c (cellsB zs) hx (by rw [cellsB_length, hzl]) hcs (cellsB_one _) (by unfold maxLen; omega) (by omega) hB ?_
    intro v' w' hown' hgrow hnil
    obtain ⟨bo, c', rfl⟩ := own_sliceB hown'
    exact h bo c' w' ⟨by simp [hxl, hzl], by rw [cellsB_append]; exact hown', hrr⟩ hgrow
end Go.Proofs.YtpbljjbhfhfmgaaGreatDoor
/- Slices of spans (two numbers each) that can be read. -/
namespace Go.Proofs.YtpbljjbhfhfmgaaGreatDoor
set_option maxRecDepth 100000
open Go.RowKit
set_option linter.unusedVariables false

def Spn.cells (s : Spn) : List Value := [.int .i64 s.pos, .int .i64 s.sz]
def cellsP (l : List Spn) : List Value := l.flatMap Spn.cells
theorem Spn.cells_len (s : Spn) : s.cells.length = 2 := rfl
theorem cellsP_length (l : List Spn) : (cellsP l).length = l.length * 2 := by
  induction l with
  | nil => rfl
  | cons a r ih => simp only [cellsP, List.flatMap_cons, List.length_append, List.length_cons, Spn.cells_len]; simp only [cellsP] at ih; omega
theorem cellsP_append (a b : List Spn) : cellsP (a ++ b) = cellsP a ++ cellsP b := by simp [cellsP]
theorem cellsP_get (l : List Spn) {i j : Nat} (h : i < l.length) (hj : j < 2) : (cellsP l)[i * 2 + j]? = (pa l i).cells[j]? := by
  induction l generalizing i with
  | nil => simp at h
  | cons a r ih =>
    cases i with
    | zero =>
      simp only [cellsP, List.flatMap_cons]
      rw [Nat.zero_mul, Nat.zero_add, List.getElem?_append_left (by rw [Spn.cells_len]; exact hj)]
      rfl
    | succ i =>
      have := ih (i := i) (by simpa using h)
      simp only [cellsP, List.flatMap_cons] at this ⊢
      rw [List.getElem?_append_right (by rw [Spn.cells_len]; omega), Spn.cells_len, show (i + 1) * 2 + j - 2 = i * 2 + j by omega, this]
      rfl
theorem cellsP_one (l : List Spn) : ∀ u ∈ cellsP l, u.oneCell' = true := by
  intro u hu
  simp only [cellsP, List.mem_flatMap] at hu
  obtain ⟨s, _, hs⟩ := hu
  simp only [Spn.cells, List.mem_cons, List.not_mem_nil, or_false] at hs
  rcases hs with rfl | rfl <;> rfl

/-- Two cells are a span. -/
structure P2 (w : World) (b o : Nat) (s : Spn) : Prop where
  c0 : w.cell? ⟨b, o, none⟩ = some (.int .i64 s.pos)
  c1 : w.cell? ⟨b, o + 1, none⟩ = some (.int .i64 s.sz)
theorem P2.of {w : World} {b o : Nat} {s : Spn} (h : ∀ j u, s.cells[j]? = some u → w.cell? ⟨b, o + j, none⟩ = some u) : P2 w b o s := ⟨h 0 _ rfl, h 1 _ rfl⟩
theorem P2.all {w : World} {b o : Nat} {s : Spn} (h : P2 w b o s) : ∀ j u, s.cells[j]? = some u → w.cell? ⟨b, o + j, none⟩ = some u := by
  intro j u hu
  match j, hu with
  | 0, hu => simp [Spn.cells] at hu; subst hu; exact h.c0
  | 1, hu => simp [Spn.cells] at hu; subst hu; exact h.c1
  | j + 2, hu => simp [Spn.cells] at hu
theorem P2.same {w w' : World} {b o : Nat} {s : Spn} (h : P2 w b o s) (e : w'.heap[b]? = w.heap[b]?) : P2 w' b o s := by
  refine P2.of fun j u hu => ?_
  rw [World.cell?_of_block (w := w) (a := ⟨b, o + j, none⟩) e]
  exact h.all j u hu
theorem P2.below {w w' : World} {b o : Nat} {s : Spn} (h : P2 w b o s) (hb : Below w.heap.size w w') : P2 w' b o s :=
  h.same (hb.block b (by have := World.block_lt_of_cell? w _ h.c0; exact this))

/-- A slice of n spans that can be read. -/
structure Ps (w : World) (ao : Option Addr) (n cap : Nat) (l : List Spn) : Prop where
  len : l.length = n
  room : n ≤ cap
  void : ao = none → cap = 0
  here : 0 < n → ∃ b off, ao = some ⟨b, off, none⟩ ∧ b < w.heap.size ∧ ∀ i, i < n → P2 w b (off + i * 2) (pa l i)
  rg : ∀ s ∈ l, RgP s
theorem Ps.rgs {w : World} {ao : Option Addr} {n cap : Nat} {l : List Spn} (h : Ps w ao n cap l) {i : Nat} (hi : i < n) : RgP (pa l i) := h.rg _ (pa_mem (by rw [h.len]; exact hi))
theorem Ps.below {w w' : World} {ao : Option Addr} {n cap : Nat} {l : List Spn} (h : Ps w ao n cap l) (hb : Below w.heap.size w w') : Ps w' ao n cap l := by
  refine ⟨h.len, h.room, h.void, fun hn => ?_, h.rg⟩
  obtain ⟨b, off, e, hlt, hc⟩ := h.here hn
  exact ⟨b, off, e, Nat.lt_of_lt_of_le hlt hb.size, fun i hi => (hc i hi).below hb⟩
theorem Ps.off {F : Nat → Prop} {w w' : World} {ao : Option Addr} {n cap : Nat} {l : List Spn} (h : Ps w ao n cap l) (ho : Off F w w') (hno : 0 < n → ∀ c, ao = some c → ¬ F c.block) : Ps w' ao n cap l := by
  refine ⟨h.len, h.room, h.void, fun hn => ?_, h.rg⟩
  obtain ⟨b, off, e, hlt, hc⟩ := h.here hn
  exact ⟨b, off, e, Nat.lt_of_lt_of_le hlt ho.size, fun i hi => (hc i hi).same (ho.block b hlt (hno hn _ e))⟩
/-- A span of one, at a later world. -/
theorem Ps.at {w wr : World} {b off n cap : Nat} {l : List Spn} (h : Ps w (some ⟨b, off, none⟩) n cap l) (hb : Below w.heap.size w wr) {i : Nat} (hi : i < n) : P2 wr b (off + i * 2) (pa l i) := by
  obtain ⟨b', o', e, _, hc⟩ := (h.below hb).here (by omega)
  simp only [Option.some.injEq, Addr.mk.injEq, and_true] at e
  obtain ⟨rfl, rfl⟩ := e
  exact hc i hi
theorem ps_nil (w : World) : Ps w none 0 0 [] := ⟨rfl, Nat.le_refl _, fun _ => rfl, fun h => absurd h (by omega), fun s hs => by cases hs⟩
/-- The cells of a part of one. -/
theorem Ps.part {w : World} {b off n cap : Nat} {l : List Spn} (h : Ps w (some ⟨b, off, none⟩) n cap l) (i m : Nat) (hm : i + m ≤ n) :
    ∀ j u, (cellsP ((l.drop i).take m))[j]? = some u → w.cell? ((⟨b, off + i * 2, none⟩ : Addr).add j) = some u := by
  intro j u hu
  have hlen := h.len
  have hl : ((l.drop i).take m).length = m := by simp; omega
  have hj : j < m * 2 := by
    have := (List.getElem?_eq_some_iff.1 hu).1
    rw [cellsP_length, hl] at this
    exact this
  have hs := h.at (Below.refl _ _) (i := i + j / 2) (by omega)
  have hg := cellsP_get ((l.drop i).take m) (i := j / 2) (j := j % 2) (by omega) (Nat.mod_lt _ (by omega))
  rw [show j / 2 * 2 + j % 2 = j by omega, hu] at hg
  have e : pa ((l.drop i).take m) (j / 2) = pa l (i + j / 2) := by
    simp only [pa, List.getD]
    rw [List.getElem?_take, if_pos (by omega), List.getElem?_drop]
  rw [e] at hg
  have := hs.all (j % 2) u hg.symm
  rw [Addr.add_lit]
  rw [show off + (i + j / 2) * 2 + j % 2 = off + i * 2 + j by omega] at this
  exact this

theorem cellsP_set (l : List Spn) (k : Nat) (s : Spn) (h : k < l.length) : cellsP (l.set k s) = ((cellsP l).set (k * 2) (.int .i64 s.pos)).set (k * 2 + 1) (.int .i64 s.sz) := by
  apply List.ext_getElem?
  intro i
  by_cases hi : i < l.length * 2
  · have g1 := cellsP_get (l.set k s) (i := i / 2) (j := i % 2) (by rw [List.length_set]; omega) (Nat.mod_lt _ (by omega))
    have g2 := cellsP_get l (i := i / 2) (j := i % 2) (by omega) (Nat.mod_lt _ (by omega))
    rw [show i / 2 * 2 + i % 2 = i by omega] at g1 g2
    rw [g1]
    simp only [List.getElem?_set, List.length_set, cellsP_length]
    by_cases e : i / 2 = k
    · rw [e, pa_set_same l k s h]
      rcases (show i % 2 = 0 ∨ i % 2 = 1 by omega) with e1 | e1
      · rw [e1, if_neg (by omega), if_pos (by omega), if_pos (by omega)]; rfl
      · rw [e1, if_pos (by omega), if_pos (by omega)]; rfl
    · rw [pa_set_other l k _ s (Ne.symm e), if_neg (by omega), if_neg (by omega), g2]
  · rw [List.getElem?_eq_none (by rw [cellsP_length, List.length_set]; omega), List.getElem?_eq_none (by simp [cellsP_length]; omega)]
theorem own_sliceP {w : World} {B : Nat} {e : TypeId} {s : Nat} {v : Value} {n : Nat} {xs : List Value} (h : w.ownsRow B e s v n xs) : ∃ bo c, v = .slice bo n c := by
  rcases h.2 with ⟨h0, hn⟩ | ⟨g, cap, cur, rfl, _⟩
  · subst hn
    exact ⟨none, 0, h0⟩
  · exact ⟨_, _, rfl⟩
end Go.Proofs.YtpbljjbhfhfmgaaGreatDoor
/- Slices of spans of the call's own. -/
namespace Go.Proofs.YtpbljjbhfhfmgaaGreatDoor
set_option maxRecDepth 100000
open Go.RowKit
set_option linter.unusedVariables false

/-- A slice of n spans at the head of a row of the call's own, in a block from B on; or a nil one. -/
structure OwP (B : Nat) (w : World) (ao : Option Addr) (n cap : Nat) (l : List Spn) : Prop where
  len : l.length = n
  row : w.ownsRow B 104 2 (.slice ao n cap) n (cellsP l)
  rg : ∀ s ∈ l, RgP s
theorem owP_nil (B : Nat) (w : World) : OwP B w none 0 0 [] := ⟨rfl, World.ownsRow_nil _ _ _ _, fun s hs => by cases hs⟩
theorem OwP.below {B : Nat} {w w' : World} {ao : Option Addr} {n cap : Nat} {l : List Spn} (h : OwP B w ao n cap l) (hb : Below w.heap.size w w') : OwP B w' ao n cap l := by
  refine ⟨h.len, ⟨h.row.1, ?_⟩, h.rg⟩
  rcases h.row.2 with hn | ⟨g, cap', cur, hv, hg, hh, r⟩
  · exact Or.inl hn
  · refine Or.inr ⟨g, cap', cur, hv, hg, ?_, r⟩
    rw [hb.block g (Array.getElem?_eq_some_iff.1 hh).1]
    exact hh
theorem OwP.mono {B B' : Nat} {w : World} {ao : Option Addr} {n cap : Nat} {l : List Spn} (h : OwP B w ao n cap l) (hB : B' ≤ B) : OwP B' w ao n cap l := by
  refine ⟨h.len, ⟨h.row.1, ?_⟩, h.rg⟩
  rcases h.row.2 with hn | ⟨g, cap', cur, hv, hg, r⟩
  · exact Or.inl hn
  · exact Or.inr ⟨g, cap', cur, hv, Nat.le_trans hB hg, r⟩
theorem OwP.ps {B : Nat} {w : World} {ao : Option Addr} {n cap : Nat} {l : List Spn} (h : OwP B w ao n cap l) : Ps w ao n cap l := by
  rcases h.row.2 with ⟨hv, hn⟩ | ⟨g, cap', cur, hv, hg, hh, hc, hm, hs, ht⟩
  · simp only [Value.slice.injEq] at hv
    obtain ⟨rfl, rfl, rfl⟩ := hv
    exact ⟨h.len, Nat.le_refl _, fun _ => rfl, fun h => absurd h (by omega), h.rg⟩
  · simp only [Value.slice.injEq] at hv
    obtain ⟨rfl, _, rfl⟩ := hv
    refine ⟨h.len, hc, (by intro h; cases h), fun _ => ⟨g, 0, rfl, (Array.getElem?_eq_some_iff.1 hh).1, fun i hi => P2.of fun j u hu => ?_⟩, h.rg⟩
    have hj : j < 2 := (List.getElem?_eq_some_iff.1 hu).1
    have hlen := h.len
    have h1 := cellsP_get l (i := i) (j := j) (by omega) hj
    rw [hu, ← ht, List.getElem?_take, if_pos (by omega), Array.getElem?_toList] at h1
    rw [Nat.zero_add, cell_of_row w g _ cur 104 (0, 0) hh]
    exact h1
theorem OwP.cap_le {B : Nat} {w : World} {ao : Option Addr} {n cap : Nat} {l : List Spn} (h : OwP B w ao n cap l) : n ≤ cap ∧ cap ≤ 9223372036854775807 := by
  rcases h.row.2 with ⟨hv, hn⟩ | ⟨g, cap', cur, hv, hg, hh, hc, hm, r⟩
  · simp only [Value.slice.injEq] at hv
    obtain ⟨rfl, rfl, rfl⟩ := hv
    exact ⟨Nat.le_refl _, by omega⟩
  · simp only [Value.slice.injEq] at hv
    obtain ⟨rfl, _, rfl⟩ := hv
    exact ⟨hc, by simpa [maxLen] using hm⟩
theorem OwP.shape {B : Nat} {w : World} {ao : Option Addr} {n cap : Nat} {l : List Spn} (h : OwP B w ao n cap l) (hn : 0 < n) : ∃ g, ao = some ⟨g, 0, none⟩ ∧ B ≤ g ∧ g < w.heap.size := by
  rcases h.row.2 with ⟨hv, h0⟩ | ⟨g, cap', cur, hv, hg, hh, _⟩
  · omega
  · simp only [Value.slice.injEq] at hv
    exact ⟨g, hv.1, hg, (Array.getElem?_eq_some_iff.1 hh).1⟩
theorem OwP.off {F : Nat → Prop} {B : Nat} {w w' : World} {ao : Option Addr} {n cap : Nat} {l : List Spn} (h : OwP B w ao n cap l) (ho : Off F w w') (hno : ∀ c, ao = some c → ¬ F c.block) : OwP B w' ao n cap l := by
  refine ⟨h.len, ⟨h.row.1, ?_⟩, h.rg⟩
  rcases h.row.2 with hn | ⟨g, cap', cur, hv, hg, hh, r⟩
  · exact Or.inl hn
  · refine Or.inr ⟨g, cap', cur, hv, hg, ?_, r⟩
    have e1 : ao = some ⟨g, 0, none⟩ := by simp only [Value.slice.injEq] at hv; exact hv.1
    rw [ho.block g (Array.getElem?_eq_some_iff.1 hh).1 (hno _ e1)]
    exact hh
/-- A span laid into a row of the call's own. -/
theorem OwP.set {B : Nat} {w : World} {g n cap : Nat} {l : List Spn} (h : OwP B w (some ⟨g, 0, none⟩) n cap l) {k : Nat} (hk : k < n) {s : Spn} (hs : RgP s) :
    OwP B ((w.setCell ⟨g, k * 2, none⟩ (.int .i64 s.pos)).setCell ⟨g, k * 2 + 1, none⟩ (.int .i64 s.sz)) (some ⟨g, 0, none⟩) n cap (l.set k s) := by
  have hl := h.len
  refine ⟨by rw [List.length_set]; exact hl, ?_, fun x hx => ?_⟩
  · rw [cellsP_set l k s (by omega)]
    exact ((h.row.stored _ _).1.stored _ _).1
  · rcases List.mem_or_eq_of_mem_set hx with hx | rfl
    · exact h.rg x hx
    · exact hs
theorem OwP.free {B : Nat} {w : World} {g n cap : Nat} {l : List Spn} (h : OwP B w (some ⟨g, 0, none⟩) n cap l) (j : Nat) : w.frozen? ⟨g, j, none⟩ = false := h.row.frozenAt j
theorem Tryz.info104 : (Tryz.prog.info? 104).map (fun i => (i.zero, i.size, i.bytes)) = some (some (.agg #[.int .i64 0, .int .i64 0]), 2, 16) := by kernel_rfl
/-- 'append(l, e...)': l of the call's own, or nil; e can be read, or nil. -/
theorem append_ps {w : World} {ops : Array Oper} {rest : List Oper} {o : Oper} {a : Act} {Q : Exit → Act → World → Prop} (hgd : o.guard = none) (s x : Operand)
    (ho : o.op = .call { callee := .builtin .append, args := #[s, x], argTypes := #[81, 81] })
    (B : Nat) (v : Value) (n : Nat) (xs : List Spn) (hs : a.eval s = v) (hown : w.ownsRow B 104 2 v n (cellsP xs)) (hxr : ∀ s ∈ xs, RgP s)
    (so : Option Addr) (m c : Nat) (zs : List Spn) (hx : a.eval x = .slice so m c) (hsl : Ps w so m c zs) (hb : (n + m) * 16 ≤ 140737488355328) (hB : B ≤ w.heap.size)
    (h : ∀ bo c' w', OwP B w' bo (n + m) c' (xs ++ zs) → w.grownBy w' v.ownBlock → wpList Tryz.prog ops Q rest (a.put o.dst (.slice bo (n + m) c')) w') : wpList Tryz.prog ops Q (o :: rest) a w := by
  obtain ⟨i0, hi, hz0, hz1, hz2⟩ := info_parts Tryz.info104
  have hxl : xs.length = n := by have := hown.1; rw [cellsP_length] at this; omega
  have hzl := hsl.len
  have hrr : ∀ s ∈ xs ++ zs, RgP s := fun s hs => by
    rcases List.mem_append.1 hs with hs | hs
    · exact hxr s hs
    · exact hsl.rg s hs
  cases so with
  | none =>
    obtain rfl : c = 0 := hsl.void rfl
    obtain rfl : m = 0 := by have := hsl.room; omega
    obtain rfl : zs = [] := List.eq_nil_of_length_eq_zero hzl
    obtain ⟨bo, c', rfl⟩ := own_sliceP hown
    refine wpList_append_own_none hgd s x 81 ho B 104 i0 2 Tryz.underlying81 hi _ n _ hs hown hx ?_
    have := h bo c' w ⟨by simpa using hxl, by simpa using hown, hrr⟩ (World.grownBy.refl _ _)
    simpa using this
  | some ad =>
    have hcs : ∀ j u, (cellsP zs)[j]? = some u → w.cell? (ad.add j) = some u := by
      intro j u hu
      have hj : 0 < m := by
        have := (List.getElem?_eq_some_iff.1 hu).1
        rw [cellsP_length] at this
        omega
      obtain ⟨b, off, e, _, _⟩ := hsl.here hj
      simp only [Option.some.injEq] at e
      subst e
      have := hsl.part 0 m (by omega) j u (by rw [List.drop_zero, List.take_of_length_le (by omega)]; exact hu)
      simpa using this
    refine wpList_append_own _ hgd s x 81 ho B 104 i0 (.agg #[.int .i64 0, .int .i64 0]) 2 16 Tryz.underlying81 hi hz0 hz1 hz2 rfl (by decide) v n _ hs hown ad m c (cellsP zs) hx (by rw [cellsP_length, hzl]) hcs (cellsP_one _) (by unfold maxLen; omega) (by omega) hB ?_
    intro v' w' hown' hgrow hnil
    obtain ⟨bo, c', rfl⟩ := own_sliceP hown'
    exact h bo c' w' ⟨by simp [hxl, hzl], by rw [cellsP_append]; exact hown', hrr⟩ hgrow
end Go.Proofs.YtpbljjbhfhfmgaaGreatDoor
/- Slices of objects of the call's own, and an object in a block of its own (an object is read as a span is: pos its At, sz its Len). -/
namespace Go.Proofs.YtpbljjbhfhfmgaaGreatDoor
set_option maxRecDepth 100000
open Go.RowKit
set_option linter.unusedVariables false

/-- A slice of n objects at the head of a row of the call's own, in a block from B on; or a nil one. -/
structure OwJ (B : Nat) (w : World) (ao : Option Addr) (n cap : Nat) (l : List Spn) : Prop where
  len : l.length = n
  row : w.ownsRow B 58 2 (.slice ao n cap) n (cellsP l)
  rg : ∀ s ∈ l, RgP s
theorem owJ_nil (B : Nat) (w : World) : OwJ B w none 0 0 [] := ⟨rfl, World.ownsRow_nil _ _ _ _, fun s hs => by cases hs⟩
theorem OwJ.below {B : Nat} {w w' : World} {ao : Option Addr} {n cap : Nat} {l : List Spn} (h : OwJ B w ao n cap l) (hb : Below w.heap.size w w') : OwJ B w' ao n cap l := by
  refine ⟨h.len, ⟨h.row.1, ?_⟩, h.rg⟩
  rcases h.row.2 with hn | ⟨g, cap', cur, hv, hg, hh, r⟩
  · exact Or.inl hn
  · refine Or.inr ⟨g, cap', cur, hv, hg, ?_, r⟩
    rw [hb.block g (Array.getElem?_eq_some_iff.1 hh).1]
    exact hh
theorem OwJ.mono {B B' : Nat} {w : World} {ao : Option Addr} {n cap : Nat} {l : List Spn} (h : OwJ B w ao n cap l) (hB : B' ≤ B) : OwJ B' w ao n cap l := by
  refine ⟨h.len, ⟨h.row.1, ?_⟩, h.rg⟩
  rcases h.row.2 with hn | ⟨g, cap', cur, hv, hg, r⟩
  · exact Or.inl hn
  · exact Or.inr ⟨g, cap', cur, hv, Nat.le_trans hB hg, r⟩
theorem OwJ.ps {B : Nat} {w : World} {ao : Option Addr} {n cap : Nat} {l : List Spn} (h : OwJ B w ao n cap l) : Ps w ao n cap l := by
  rcases h.row.2 with ⟨hv, hn⟩ | ⟨g, cap', cur, hv, hg, hh, hc, hm, hs, ht⟩
  · simp only [Value.slice.injEq] at hv
    obtain ⟨rfl, rfl, rfl⟩ := hv
    exact ⟨h.len, Nat.le_refl _, fun _ => rfl, fun h => absurd h (by omega), h.rg⟩
  · simp only [Value.slice.injEq] at hv
    obtain ⟨rfl, _, rfl⟩ := hv
    refine ⟨h.len, hc, (by intro h; cases h), fun _ => ⟨g, 0, rfl, (Array.getElem?_eq_some_iff.1 hh).1, fun i hi => P2.of fun j u hu => ?_⟩, h.rg⟩
    have hj : j < 2 := (List.getElem?_eq_some_iff.1 hu).1
    have hlen := h.len
    have h1 := cellsP_get l (i := i) (j := j) (by omega) hj
    rw [hu, ← ht, List.getElem?_take, if_pos (by omega), Array.getElem?_toList] at h1
    rw [Nat.zero_add, cell_of_row w g _ cur 58 (0, 0) hh]
    exact h1
theorem OwJ.cap_le {B : Nat} {w : World} {ao : Option Addr} {n cap : Nat} {l : List Spn} (h : OwJ B w ao n cap l) : n ≤ cap ∧ cap ≤ 9223372036854775807 := by
  rcases h.row.2 with ⟨hv, hn⟩ | ⟨g, cap', cur, hv, hg, hh, hc, hm, r⟩
  · simp only [Value.slice.injEq] at hv
    obtain ⟨rfl, rfl, rfl⟩ := hv
    exact ⟨Nat.le_refl _, by omega⟩
  · simp only [Value.slice.injEq] at hv
    obtain ⟨rfl, _, rfl⟩ := hv
    exact ⟨hc, by simpa [maxLen] using hm⟩
theorem OwJ.shape {B : Nat} {w : World} {ao : Option Addr} {n cap : Nat} {l : List Spn} (h : OwJ B w ao n cap l) (hn : 0 < n) : ∃ g, ao = some ⟨g, 0, none⟩ ∧ B ≤ g ∧ g < w.heap.size := by
  rcases h.row.2 with ⟨hv, h0⟩ | ⟨g, cap', cur, hv, hg, hh, _⟩
  · omega
  · simp only [Value.slice.injEq] at hv
    exact ⟨g, hv.1, hg, (Array.getElem?_eq_some_iff.1 hh).1⟩
theorem OwJ.off {F : Nat → Prop} {B : Nat} {w w' : World} {ao : Option Addr} {n cap : Nat} {l : List Spn} (h : OwJ B w ao n cap l) (ho : Off F w w') (hno : ∀ c, ao = some c → ¬ F c.block) : OwJ B w' ao n cap l := by
  refine ⟨h.len, ⟨h.row.1, ?_⟩, h.rg⟩
  rcases h.row.2 with hn | ⟨g, cap', cur, hv, hg, hh, r⟩
  · exact Or.inl hn
  · refine Or.inr ⟨g, cap', cur, hv, hg, ?_, r⟩
    have e1 : ao = some ⟨g, 0, none⟩ := by simp only [Value.slice.injEq] at hv; exact hv.1
    rw [ho.block g (Array.getElem?_eq_some_iff.1 hh).1 (hno _ e1)]
    exact hh
/-- An object laid into a row of the call's own. -/
theorem OwJ.set {B : Nat} {w : World} {g n cap : Nat} {l : List Spn} (h : OwJ B w (some ⟨g, 0, none⟩) n cap l) {k : Nat} (hk : k < n) {s : Spn} (hs : RgP s) :
    OwJ B ((w.setCell ⟨g, k * 2, none⟩ (.int .i64 s.pos)).setCell ⟨g, k * 2 + 1, none⟩ (.int .i64 s.sz)) (some ⟨g, 0, none⟩) n cap (l.set k s) := by
  have hl := h.len
  refine ⟨by rw [List.length_set]; exact hl, ?_, fun x hx => ?_⟩
  · rw [cellsP_set l k s (by omega)]
    exact ((h.row.stored _ _).1.stored _ _).1
  · rcases List.mem_or_eq_of_mem_set hx with hx | rfl
    · exact h.rg x hx
    · exact hs
theorem OwJ.free {B : Nat} {w : World} {g n cap : Nat} {l : List Spn} (h : OwJ B w (some ⟨g, 0, none⟩) n cap l) (j : Nat) : w.frozen? ⟨g, j, none⟩ = false := h.row.frozenAt j
theorem Tryz.info58 : (Tryz.prog.info? 58).map (fun i => (i.zero, i.size, i.bytes)) = some (some (.agg #[.int .i64 0, .int .i64 0]), 2, 16) := by kernel_rfl
/-- 'append(l, e...)': l of the call's own, or nil; e can be read, or nil. -/
theorem append_js {w : World} {ops : Array Oper} {rest : List Oper} {o : Oper} {a : Act} {Q : Exit → Act → World → Prop} (hgd : o.guard = none) (s x : Operand)
    (ho : o.op = .call { callee := .builtin .append, args := #[s, x], argTypes := #[32, 32] })
    (B : Nat) (v : Value) (n : Nat) (xs : List Spn) (hs : a.eval s = v) (hown : w.ownsRow B 58 2 v n (cellsP xs)) (hxr : ∀ s ∈ xs, RgP s)
    (so : Option Addr) (m c : Nat) (zs : List Spn) (hx : a.eval x = .slice so m c) (hsl : Ps w so m c zs) (hb : (n + m) * 16 ≤ 140737488355328) (hB : B ≤ w.heap.size)
    (h : ∀ bo c' w', OwJ B w' bo (n + m) c' (xs ++ zs) → w.grownBy w' v.ownBlock → wpList Tryz.prog ops Q rest (a.put o.dst (.slice bo (n + m) c')) w') : wpList Tryz.prog ops Q (o :: rest) a w := by
  obtain ⟨i0, hi, hz0, hz1, hz2⟩ := info_parts Tryz.info58
  have hxl : xs.length = n := by have := hown.1; rw [cellsP_length] at this; omega
  have hzl := hsl.len
  have hrr : ∀ s ∈ xs ++ zs, RgP s := fun s hs => by
    rcases List.mem_append.1 hs with hs | hs
    · exact hxr s hs
    · exact hsl.rg s hs
  cases so with
  | none =>
    obtain rfl : c = 0 := hsl.void rfl
    obtain rfl : m = 0 := by have := hsl.room; omega
    obtain rfl : zs = [] := List.eq_nil_of_length_eq_zero hzl
    obtain ⟨bo, c', rfl⟩ := own_sliceP hown
    refine wpList_append_own_none hgd s x 32 ho B 58 i0 2 Tryz.underlying32 hi _ n _ hs hown hx ?_
    have := h bo c' w ⟨by simpa using hxl, by simpa using hown, hrr⟩ (World.grownBy.refl _ _)
    simpa using this
  | some ad =>
    have hcs : ∀ j u, (cellsP zs)[j]? = some u → w.cell? (ad.add j) = some u := by
      intro j u hu
      have hj : 0 < m := by
        have := (List.getElem?_eq_some_iff.1 hu).1
        rw [cellsP_length] at this
        omega
      obtain ⟨b, off, e, _, _⟩ := hsl.here hj
      simp only [Option.some.injEq] at e
      subst e
      have := hsl.part 0 m (by omega) j u (by rw [List.drop_zero, List.take_of_length_le (by omega)]; exact hu)
      simpa using this
    refine wpList_append_own _ hgd s x 32 ho B 58 i0 (.agg #[.int .i64 0, .int .i64 0]) 2 16 Tryz.underlying32 hi hz0 hz1 hz2 rfl (by decide) v n _ hs hown ad m c (cellsP zs) hx (by rw [cellsP_length, hzl]) hcs (cellsP_one _) (by unfold maxLen; omega) (by omega) hB ?_
    intro v' w' hown' hgrow hnil
    obtain ⟨bo, c', rfl⟩ := own_sliceP hown'
    exact h bo c' w' ⟨by simp [hxl, hzl], by rw [cellsP_append]; exact hown', hrr⟩ hgrow

/-- An object in a block of its own. -/
def Spn.ob (s : Spn) : Obj := .cells #[.int .i64 s.pos, .int .i64 s.sz] 58
def BxJ (w : World) (b : Nat) (s : Spn) : Prop := w.heap[b]? = some (.cells #[.int .i64 s.pos, .int .i64 s.sz] 58 (0, 0))
theorem BxJ.lt {w : World} {b : Nat} {s : Spn} (h : BxJ w b s) : b < w.heap.size := (Array.getElem?_eq_some_iff.1 h).1
theorem BxJ.kept {w w' : World} {b : Nat} {s : Spn} (h : BxJ w b s) (hb : Below w.heap.size w w') : BxJ w' b s := (hb.block b h.lt).trans h
theorem BxJ.off {F : Nat → Prop} {w w' : World} {b : Nat} {s : Spn} (h : BxJ w b s) (ho : Off F w w') (hn : ¬ F b) : BxJ w' b s := (ho.block b h.lt hn).trans h
theorem BxJ.p2 {w : World} {b : Nat} {s : Spn} (h : BxJ w b s) : P2 w b 0 s := by
  refine P2.of fun j u hu => ?_
  rw [cell_of_row w b (0 + j) _ 58 (0, 0) h, Nat.zero_add]
  simpa [Spn.cells] using hu
theorem BxJ.cells {w : World} {b : Nat} {s : Spn} (h : BxJ w b s) : w.cell? ⟨b, 0, none⟩ = some (.int .i64 s.pos) ∧ w.cell? ⟨b, 1, none⟩ = some (.int .i64 s.sz) ∧ w.frozen? ⟨b, 0, none⟩ = false ∧ w.frozen? ⟨b, 1, none⟩ = false :=
  ⟨h.p2.c0, by have := h.p2.c1; simpa using this, frozen_of_row w b 0 _ 58 h, frozen_of_row w b 1 _ 58 h⟩
theorem bxJ_new (w : World) (s : Spn) : BxJ (w.alloc s.ob) w.heap.size s := heap_alloc_new w _
theorem bxJ_new' (w : World) (p z : Int) : BxJ (w.alloc (.cells #[.int .i64 p, .int .i64 z] 58)) w.heap.size ⟨p, z⟩ := heap_alloc_new w _
theorem BxJ.set {w : World} {b : Nat} {s : Spn} (h : BxJ w b s) (t : Spn) : BxJ ((w.setCell ⟨b, 0, none⟩ (.int .i64 t.pos)).setCell ⟨b, 1, none⟩ (.int .i64 t.sz)) b t := by
  have h1 := heap_setCell_same w b 0 _ 58 (.int .i64 t.pos) h
  have h2 := heap_setCell_same _ b 1 _ 58 (.int .i64 t.sz) h1
  exact h2
end Go.Proofs.YtpbljjbhfhfmgaaGreatDoor
/- A span in a block of its own, as a row. -/
namespace Go.Proofs.YtpbljjbhfhfmgaaGreatDoor
set_option maxRecDepth 100000
open Go.RowKit
set_option linter.unusedVariables false
set_option linter.unusedSimpArgs false
set_option maxRecDepth 100000

theorem st_span1 (w : World) (k : Nat) (s : Spn) (hk : w.heap.size = k) (hs : RgP s) : Ps (w.alloc (.cells #[.int .i64 s.pos, .int .i64 s.sz] 104)) (some ⟨k, 0, none⟩) 1 1 [s] := by
  subst hk
  refine ⟨rfl, Nat.le_refl _, (by intro h; cases h), fun _ => ⟨w.heap.size, 0, rfl, by simp, fun i hi => ?_⟩, fun x hx => by rw [List.mem_singleton.1 hx]; exact hs⟩
  obtain rfl : i = 0 := by omega
  refine P2.of fun j u hu => ?_
  rw [cell_of_row _ w.heap.size _ _ 104 (0, 0) (heap_alloc_new w _)]
  simpa [Spn.cells, pa] using hu
end Go.Proofs.YtpbljjbhfhfmgaaGreatDoor
