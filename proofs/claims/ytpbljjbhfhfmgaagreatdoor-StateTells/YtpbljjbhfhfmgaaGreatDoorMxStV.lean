/- RootR · StV · StF · RefStA: these texts, one behind another. -/
import Derived.Test.YtpbljjbhfhfmgaaGreatDoorMxStM
import Derived.Test.YtpbljjbhfhfmgaaGreatDoorMxHandM
import Derived.Test.YtpbljjbhfhfmgaaGreatDoorMxOff
import Derived.Test.YtpbljjbhfhfmgaaGreatDoorMxInfo
import Derived.Laws.AppendOwnNone
import Derived.Test.YtpbljjbhfhfmgaaGreatDoorMxTabA
import Derived.Test.YtpbljjbhfhfmgaaGreatDoorMxLent
import Derived.WalkKit
import Derived.LoopTactic
/- Slices of roots: one that can be read; one of the call's own. -/
namespace Go.Proofs.YtpbljjbhfhfmgaaGreatDoor
set_option maxRecDepth 100000
open Go.RowKit
set_option linter.unusedVariables false

def Rt.cells (s : Rt) : List Value := [.string s.nm, .int .i64 s.ix, .int .i64 s.gn]
def cellsR (l : List Rt) : List Value := l.flatMap Rt.cells
theorem Rt.cells_len (s : Rt) : s.cells.length = 3 := rfl
theorem cellsR_length (l : List Rt) : (cellsR l).length = l.length * 3 := by
  induction l with
  | nil => rfl
  | cons a r ih => simp only [cellsR, List.flatMap_cons, List.length_append, List.length_cons, Rt.cells_len]; simp only [cellsR] at ih; omega
theorem cellsR_append (a b : List Rt) : cellsR (a ++ b) = cellsR a ++ cellsR b := by simp [cellsR]
theorem cellsR_get (l : List Rt) {i j : Nat} (h : i < l.length) (hj : j < 3) : (cellsR l)[i * 3 + j]? = (ra l i).cells[j]? := by
  induction l generalizing i with
  | nil => simp at h
  | cons a r ih =>
    cases i with
    | zero =>
      simp only [cellsR, List.flatMap_cons]
      rw [Nat.zero_mul, Nat.zero_add, List.getElem?_append_left (by rw [Rt.cells_len]; exact hj)]
      rfl
    | succ i =>
      have := ih (i := i) (by simpa using h)
      simp only [cellsR, List.flatMap_cons] at this ⊢
      rw [List.getElem?_append_right (by rw [Rt.cells_len]; omega), Rt.cells_len, show (i + 1) * 3 + j - 3 = i * 3 + j by omega, this]
      rfl
theorem cellsR_one (l : List Rt) : ∀ u ∈ cellsR l, u.oneCell' = true := by
  intro u hu
  simp only [cellsR, List.mem_flatMap] at hu
  obtain ⟨s, _, hs⟩ := hu
  simp only [Rt.cells, List.mem_cons, List.not_mem_nil, or_false] at hs
  rcases hs with rfl | rfl | rfl <;> rfl

/-- Three cells are a root. -/
structure R3 (w : World) (b o : Nat) (s : Rt) : Prop where
  c0 : w.cell? ⟨b, o, none⟩ = some (.string s.nm)
  c1 : w.cell? ⟨b, o + 1, none⟩ = some (.int .i64 s.ix)
  c2 : w.cell? ⟨b, o + 2, none⟩ = some (.int .i64 s.gn)
theorem R3.of {w : World} {b o : Nat} {s : Rt} (h : ∀ j u, s.cells[j]? = some u → w.cell? ⟨b, o + j, none⟩ = some u) : R3 w b o s := ⟨h 0 _ rfl, h 1 _ rfl, h 2 _ rfl⟩
theorem R3.all {w : World} {b o : Nat} {s : Rt} (h : R3 w b o s) : ∀ j u, s.cells[j]? = some u → w.cell? ⟨b, o + j, none⟩ = some u := by
  intro j u hu
  match j, hu with
  | 0, hu => simp [Rt.cells] at hu; subst hu; exact h.c0
  | 1, hu => simp [Rt.cells] at hu; subst hu; exact h.c1
  | 2, hu => simp [Rt.cells] at hu; subst hu; exact h.c2
  | j + 3, hu => simp [Rt.cells] at hu
theorem R3.same {w w' : World} {b o : Nat} {s : Rt} (h : R3 w b o s) (e : w'.heap[b]? = w.heap[b]?) : R3 w' b o s := by
  refine R3.of fun j u hu => ?_
  rw [World.cell?_of_block (w := w) (a := ⟨b, o + j, none⟩) e]
  exact h.all j u hu
theorem R3.below {w w' : World} {b o : Nat} {s : Rt} (h : R3 w b o s) (hb : Below w.heap.size w w') : R3 w' b o s :=
  h.same (hb.block b (by have := World.block_lt_of_cell? w _ h.c0; exact this))

/-- A slice of n roots that can be read. -/
structure Rs (w : World) (ao : Option Addr) (n cap : Nat) (l : List Rt) : Prop where
  len : l.length = n
  room : n ≤ cap
  void : ao = none → cap = 0
  here : 0 < n → ∃ b off, ao = some ⟨b, off, none⟩ ∧ b < w.heap.size ∧ ∀ i, i < n → R3 w b (off + i * 3) (ra l i)
  rg : ∀ s ∈ l, RgR s
theorem Rs.rgs {w : World} {ao : Option Addr} {n cap : Nat} {l : List Rt} (h : Rs w ao n cap l) {i : Nat} (hi : i < n) : RgR (ra l i) := h.rg _ (ra_mem (by rw [h.len]; exact hi))
theorem Rs.below {w w' : World} {ao : Option Addr} {n cap : Nat} {l : List Rt} (h : Rs w ao n cap l) (hb : Below w.heap.size w w') : Rs w' ao n cap l := by
  refine ⟨h.len, h.room, h.void, fun hn => ?_, h.rg⟩
  obtain ⟨b, off, e, hlt, hc⟩ := h.here hn
  exact ⟨b, off, e, Nat.lt_of_lt_of_le hlt hb.size, fun i hi => (hc i hi).below hb⟩
theorem Rs.off {F : Nat → Prop} {w w' : World} {ao : Option Addr} {n cap : Nat} {l : List Rt} (h : Rs w ao n cap l) (ho : Off F w w') (hno : 0 < n → ∀ c, ao = some c → ¬ F c.block) : Rs w' ao n cap l := by
  refine ⟨h.len, h.room, h.void, fun hn => ?_, h.rg⟩
  obtain ⟨b, off, e, hlt, hc⟩ := h.here hn
  exact ⟨b, off, e, Nat.lt_of_lt_of_le hlt ho.size, fun i hi => (hc i hi).same (ho.block b hlt (hno hn _ e))⟩
/-- A root of one, at a later world. -/
theorem Rs.at {w wr : World} {b off n cap : Nat} {l : List Rt} (h : Rs w (some ⟨b, off, none⟩) n cap l) (hb : Below w.heap.size w wr) {i : Nat} (hi : i < n) : R3 wr b (off + i * 3) (ra l i) := by
  obtain ⟨b', o', e, _, hc⟩ := (h.below hb).here (by omega)
  simp only [Option.some.injEq, Addr.mk.injEq, and_true] at e
  obtain ⟨rfl, rfl⟩ := e
  exact hc i hi
theorem rs_nil (w : World) : Rs w none 0 0 [] := ⟨rfl, Nat.le_refl _, fun _ => rfl, fun h => absurd h (by omega), fun s hs => by cases hs⟩
/-- The cells of a part of one. -/
theorem Rs.part {w : World} {b off n cap : Nat} {l : List Rt} (h : Rs w (some ⟨b, off, none⟩) n cap l) (i m : Nat) (hm : i + m ≤ n) :
    ∀ j u, (cellsR ((l.drop i).take m))[j]? = some u → w.cell? ((⟨b, off + i * 3, none⟩ : Addr).add j) = some u := by
  intro j u hu
  have hlen := h.len
  have hl : ((l.drop i).take m).length = m := by simp; omega
  have hj : j < m * 3 := by
    have := (List.getElem?_eq_some_iff.1 hu).1
    rw [cellsR_length, hl] at this
    exact this
  have hs := h.at (Below.refl _ _) (i := i + j / 3) (by omega)
  have hg := cellsR_get ((l.drop i).take m) (i := j / 3) (j := j % 3) (by omega) (Nat.mod_lt _ (by omega))
  rw [show j / 3 * 3 + j % 3 = j by omega, hu] at hg
  have e : ra ((l.drop i).take m) (j / 3) = ra l (i + j / 3) := by
    simp only [ra, List.getD]
    rw [List.getElem?_take, if_pos (by omega), List.getElem?_drop]
  rw [e] at hg
  have := hs.all (j % 3) u hg.symm
  rw [Addr.add_lit]
  rw [show off + (i + j / 3) * 3 + j % 3 = off + i * 3 + j by omega] at this
  exact this

/-- A slice of n roots at the head of a row of the call's own, in a block from B on; or a nil one. -/
structure OwR (B : Nat) (w : World) (ao : Option Addr) (n cap : Nat) (l : List Rt) : Prop where
  len : l.length = n
  row : w.ownsRow B 52 3 (.slice ao n cap) n (cellsR l)
  rg : ∀ s ∈ l, RgR s
theorem owR_nil (B : Nat) (w : World) : OwR B w none 0 0 [] := ⟨rfl, World.ownsRow_nil _ _ _ _, fun s hs => by cases hs⟩
theorem OwR.below {B : Nat} {w w' : World} {ao : Option Addr} {n cap : Nat} {l : List Rt} (h : OwR B w ao n cap l) (hb : Below w.heap.size w w') : OwR B w' ao n cap l := by
  refine ⟨h.len, ⟨h.row.1, ?_⟩, h.rg⟩
  rcases h.row.2 with hn | ⟨g, cap', cur, hv, hg, hh, r⟩
  · exact Or.inl hn
  · refine Or.inr ⟨g, cap', cur, hv, hg, ?_, r⟩
    rw [hb.block g (Array.getElem?_eq_some_iff.1 hh).1]
    exact hh
theorem OwR.mono {B B' : Nat} {w : World} {ao : Option Addr} {n cap : Nat} {l : List Rt} (h : OwR B w ao n cap l) (hB : B' ≤ B) : OwR B' w ao n cap l := by
  refine ⟨h.len, ⟨h.row.1, ?_⟩, h.rg⟩
  rcases h.row.2 with hn | ⟨g, cap', cur, hv, hg, r⟩
  · exact Or.inl hn
  · exact Or.inr ⟨g, cap', cur, hv, Nat.le_trans hB hg, r⟩
theorem OwR.rs {B : Nat} {w : World} {ao : Option Addr} {n cap : Nat} {l : List Rt} (h : OwR B w ao n cap l) : Rs w ao n cap l := by
  rcases h.row.2 with ⟨hv, hn⟩ | ⟨g, cap', cur, hv, hg, hh, hc, hm, hs, ht⟩
  · simp only [Value.slice.injEq] at hv
    obtain ⟨rfl, rfl, rfl⟩ := hv
    exact ⟨h.len, Nat.le_refl _, fun _ => rfl, fun h => absurd h (by omega), h.rg⟩
  · simp only [Value.slice.injEq] at hv
    obtain ⟨rfl, _, rfl⟩ := hv
    refine ⟨h.len, hc, (by intro h; cases h), fun _ => ⟨g, 0, rfl, (Array.getElem?_eq_some_iff.1 hh).1, fun i hi => R3.of fun j u hu => ?_⟩, h.rg⟩
    have hj : j < 3 := (List.getElem?_eq_some_iff.1 hu).1
    have hlen := h.len
    have h1 := cellsR_get l (i := i) (j := j) (by omega) hj
    rw [hu, ← ht, List.getElem?_take, if_pos (by omega), Array.getElem?_toList] at h1
    rw [Nat.zero_add, cell_of_row w g _ cur 52 (0, 0) hh]
    exact h1
theorem OwR.cap_le {B : Nat} {w : World} {ao : Option Addr} {n cap : Nat} {l : List Rt} (h : OwR B w ao n cap l) : n ≤ cap ∧ cap ≤ 9223372036854775807 := by
  rcases h.row.2 with ⟨hv, hn⟩ | ⟨g, cap', cur, hv, hg, hh, hc, hm, r⟩
  · simp only [Value.slice.injEq] at hv
    obtain ⟨rfl, rfl, rfl⟩ := hv
    exact ⟨Nat.le_refl _, by omega⟩
  · simp only [Value.slice.injEq] at hv
    obtain ⟨rfl, _, rfl⟩ := hv
    exact ⟨hc, by simpa [maxLen] using hm⟩
theorem OwR.shape {B : Nat} {w : World} {ao : Option Addr} {n cap : Nat} {l : List Rt} (h : OwR B w ao n cap l) (hn : 0 < n) : ∃ g, ao = some ⟨g, 0, none⟩ ∧ B ≤ g ∧ g < w.heap.size := by
  rcases h.row.2 with ⟨hv, h0⟩ | ⟨g, cap', cur, hv, hg, hh, _⟩
  · omega
  · simp only [Value.slice.injEq] at hv
    exact ⟨g, hv.1, hg, (Array.getElem?_eq_some_iff.1 hh).1⟩
theorem OwR.off {F : Nat → Prop} {B : Nat} {w w' : World} {ao : Option Addr} {n cap : Nat} {l : List Rt} (h : OwR B w ao n cap l) (ho : Off F w w') (hno : ∀ c, ao = some c → ¬ F c.block) : OwR B w' ao n cap l := by
  refine ⟨h.len, ⟨h.row.1, ?_⟩, h.rg⟩
  rcases h.row.2 with hn | ⟨g, cap', cur, hv, hg, hh, r⟩
  · exact Or.inl hn
  · refine Or.inr ⟨g, cap', cur, hv, hg, ?_, r⟩
    have e1 : ao = some ⟨g, 0, none⟩ := by simp only [Value.slice.injEq] at hv; exact hv.1
    rw [ho.block g (Array.getElem?_eq_some_iff.1 hh).1 (hno _ e1)]
    exact hh
theorem cellsR_set (l : List Rt) (k : Nat) (s : Rt) (h : k < l.length) : cellsR (l.set k s) = (((cellsR l).set (k * 3) (.string s.nm)).set (k * 3 + 1) (.int .i64 s.ix)).set (k * 3 + 2) (.int .i64 s.gn) := by
  apply List.ext_getElem?
  intro i
  by_cases hi : i < l.length * 3
  · have g1 := cellsR_get (l.set k s) (i := i / 3) (j := i % 3) (by rw [List.length_set]; omega) (Nat.mod_lt _ (by omega))
    have g2 := cellsR_get l (i := i / 3) (j := i % 3) (by omega) (Nat.mod_lt _ (by omega))
    rw [show i / 3 * 3 + i % 3 = i by omega] at g1 g2
    rw [g1]
    simp only [List.getElem?_set, List.length_set, cellsR_length]
    by_cases e : i / 3 = k
    · rw [e, ra_set_same l k s h]
      rcases (show i % 3 = 0 ∨ i % 3 = 1 ∨ i % 3 = 2 by omega) with e1 | e1 | e1
      · rw [e1, if_neg (by omega), if_neg (by omega), if_pos (by omega), if_pos (by omega)]; rfl
      · rw [e1, if_neg (by omega), if_pos (by omega), if_pos (by omega)]; rfl
      · rw [e1, if_pos (by omega), if_pos (by omega)]; rfl
    · rw [ra_set_other l k _ s (Ne.symm e), if_neg (by omega), if_neg (by omega), if_neg (by omega), g2]
  · rw [List.getElem?_eq_none (by rw [cellsR_length, List.length_set]; omega), List.getElem?_eq_none (by simp [cellsR_length]; omega)]
/-- A root laid into a row of the call's own. -/
theorem OwR.set {B : Nat} {w : World} {g n cap : Nat} {l : List Rt} (h : OwR B w (some ⟨g, 0, none⟩) n cap l) {k : Nat} (hk : k < n) {s : Rt} (hs : RgR s) :
    OwR B (((w.setCell ⟨g, k * 3, none⟩ (.string s.nm)).setCell ⟨g, k * 3 + 1, none⟩ (.int .i64 s.ix)).setCell ⟨g, k * 3 + 2, none⟩ (.int .i64 s.gn)) (some ⟨g, 0, none⟩) n cap (l.set k s) := by
  have hl := h.len
  refine ⟨by rw [List.length_set]; exact hl, ?_, fun x hx => ?_⟩
  · rw [cellsR_set l k s (by omega)]
    exact (((h.row.stored _ _).1.stored _ _).1.stored _ _).1
  · rcases List.mem_or_eq_of_mem_set hx with hx | rfl
    · exact h.rg x hx
    · exact hs
theorem OwR.free {B : Nat} {w : World} {g n cap : Nat} {l : List Rt} (h : OwR B w (some ⟨g, 0, none⟩) n cap l) (j : Nat) : w.frozen? ⟨g, j, none⟩ = false := h.row.frozenAt j
theorem Tryz.info52 : (Tryz.prog.info? 52).map (fun i => (i.zero, i.size, i.bytes)) = some (some (.agg #[.string ⟨#[]⟩, .int .i64 0, .int .i64 0]), 3, 32) := by kernel_rfl
theorem own_sliceR {w : World} {B : Nat} {e : TypeId} {s : Nat} {v : Value} {n : Nat} {xs : List Value} (h : w.ownsRow B e s v n xs) : ∃ bo c, v = .slice bo n c := by
  rcases h.2 with ⟨h0, hn⟩ | ⟨g, cap, cur, rfl, _⟩
  · subst hn
    exact ⟨none, 0, h0⟩
  · exact ⟨_, _, rfl⟩
/-- 'append(l, e...)': l of the call's own, or nil; e can be read, or nil. -/
theorem append_rs {w : World} {ops : Array Oper} {rest : List Oper} {o : Oper} {a : Act} {Q : Exit → Act → World → Prop} (hgd : o.guard = none) (s x : Operand)
    (ho : o.op = .call { callee := .builtin .append, args := #[s, x], argTypes := #[25, 25] })
    (B : Nat) (v : Value) (n : Nat) (xs : List Rt) (hs : a.eval s = v) (hown : w.ownsRow B 52 3 v n (cellsR xs)) (hxr : ∀ s ∈ xs, RgR s)
    (so : Option Addr) (m c : Nat) (zs : List Rt) (hx : a.eval x = .slice so m c) (hsl : Rs w so m c zs) (hb : (n + m) * 32 ≤ 140737488355328) (hB : B ≤ w.heap.size)
    (h : ∀ bo c' w', OwR B w' bo (n + m) c' (xs ++ zs) → w.grownBy w' v.ownBlock → wpList Tryz.prog ops Q rest (a.put o.dst (.slice bo (n + m) c')) w') : wpList Tryz.prog ops Q (o :: rest) a w := by
  obtain ⟨i0, hi, hz0, hz1, hz2⟩ := info_parts Tryz.info52
  have hxl : xs.length = n := by have := hown.1; rw [cellsR_length] at this; omega
  have hzl := hsl.len
  have hrr : ∀ s ∈ xs ++ zs, RgR s := fun s hs => by
    rcases List.mem_append.1 hs with hs | hs
    · exact hxr s hs
    · exact hsl.rg s hs
  cases so with
  | none =>
    obtain rfl : c = 0 := hsl.void rfl
    obtain rfl : m = 0 := by have := hsl.room; omega
    obtain rfl : zs = [] := List.eq_nil_of_length_eq_zero hzl
    obtain ⟨bo, c', rfl⟩ := own_sliceR hown
    refine wpList_append_own_none hgd s x 25 ho B 52 i0 3 Tryz.underlying25 hi _ n _ hs hown hx ?_
    have := h bo c' w ⟨by simpa using hxl, by simpa using hown, hrr⟩ (World.grownBy.refl _ _)
    simpa using this
  | some ad =>
    have hcs : ∀ j u, (cellsR zs)[j]? = some u → w.cell? (ad.add j) = some u := by
      intro j u hu
      have hj : 0 < m := by
        have := (List.getElem?_eq_some_iff.1 hu).1
        rw [cellsR_length] at this
        omega
      obtain ⟨b, off, e, _, _⟩ := hsl.here hj
      simp only [Option.some.injEq] at e
      subst e
      have := hsl.part 0 m (by omega) j u (by rw [List.drop_zero, List.take_of_length_le (by omega)]; exact hu)
      simpa using this
    refine wpList_append_own _ hgd s x 25 ho B 52 i0 (.agg #[.string ⟨#[]⟩, .int .i64 0, .int .i64 0]) 3 32 Tryz.underlying25 hi hz0 hz1 hz2 rfl (by decide) v n _ hs hown ad m c (cellsR zs) hx (by rw [cellsR_length, hzl]) hcs (cellsR_one _) (by unfold maxLen; omega) (by omega) hB ?_
    intro v' w' hown' hgrow hnil
    obtain ⟨bo, c', rfl⟩ := own_sliceR hown'
    exact h bo c' w' ⟨by simp [hxl, hzl], by rw [cellsR_append]; exact hown', hrr⟩ hgrow
end Go.Proofs.YtpbljjbhfhfmgaaGreatDoor
/- States in memory: by value, in a block of their own. -/
namespace Go.Proofs.YtpbljjbhfhfmgaaGreatDoor
set_option maxRecDepth 100000
open Go.RowKit
set_option linter.unusedVariables false
set_option linter.unusedSimpArgs false
set_option maxRecDepth 100000

/-- The slices of a state. -/
structure StV where
  so : Option Addr
  sn : Nat
  sc : Nat
  ro : Option Addr
  rn : Nat
  rc : Nat
  to : Option Addr
  tn : Nat
  tc : Nat
  A : Nat → Option Addr
  N : Nat → Nat
  C : Nat → Nat
/-- A state's nine cells. -/
def stC (v : StV) (x : Stt) : Array Value := #[.int .i64 x.shp.pg, .int .i64 x.shp.sl, .int .i64 x.shp.rt, .int .i64 x.shp.rm, .int .i64 x.md, .int .i64 x.bs, .slice v.so v.sn v.sc, .slice v.ro v.rn v.rc, .slice v.to v.tn v.tc]
/-- A state whose slices can be read. -/
structure Sta (w : World) (v : StV) (x : Stt) : Prop where
  s : Tb w v.so v.sn v.sc x.sl
  r : Rs w v.ro v.rn v.rc x.rt
  d : Rd w v.to v.tn v.tc v.A v.N v.C x.dt
  gh : ShG x.shp
  gm : Rg x.md
  gb : Rg x.bs
theorem Sta.below {w w' : World} {v : StV} {x : Stt} (h : Sta w v x) (hb : Below w.heap.size w w') : Sta w' v x := ⟨h.s.below hb, h.r.below hb, h.d.below hb, h.gh, h.gm, h.gb⟩
/-- A state in a block of its own. -/
def BxT (w : World) (b : Nat) (v : StV) (x : Stt) : Prop := w.heap[b]? = some (.cells (stC v x) 28 (0, 0))
theorem BxT.lt {w : World} {b : Nat} {v : StV} {x : Stt} (h : BxT w b v x) : b < w.heap.size := (Array.getElem?_eq_some_iff.1 h).1
theorem BxT.kept {w w' : World} {b : Nat} {v : StV} {x : Stt} (h : BxT w b v x) (hb : Below w.heap.size w w') : BxT w' b v x := (hb.block b h.lt).trans h
theorem BxT.off {F : Nat → Prop} {w w' : World} {b : Nat} {v : StV} {x : Stt} (h : BxT w b v x) (ho : Off F w w') (hn : ¬ F b) : BxT w' b v x := (ho.block b h.lt hn).trans h
theorem BxT.more {w : World} {b : Nat} {v : StV} {x : Stt} (h : BxT w b v x) (o : Obj) : BxT (w.alloc o) b v x := h.kept ((Below.refl _ _).alloc (Nat.le_refl _) _)
theorem BxT.drew {w : World} {b : Nat} {v : StV} {x : Stt} (h : BxT w b v x) : BxT w.drew b v x := h
structure CelT (w : World) (b : Nat) (v : StV) (x : Stt) : Prop where
  c0 : w.cell? ⟨b, 0, none⟩ = some (.int .i64 x.shp.pg)
  c1 : w.cell? ⟨b, 1, none⟩ = some (.int .i64 x.shp.sl)
  c2 : w.cell? ⟨b, 2, none⟩ = some (.int .i64 x.shp.rt)
  c3 : w.cell? ⟨b, 3, none⟩ = some (.int .i64 x.shp.rm)
  c4 : w.cell? ⟨b, 4, none⟩ = some (.int .i64 x.md)
  c5 : w.cell? ⟨b, 5, none⟩ = some (.int .i64 x.bs)
  c6 : w.cell? ⟨b, 6, none⟩ = some (.slice v.so v.sn v.sc)
  c7 : w.cell? ⟨b, 7, none⟩ = some (.slice v.ro v.rn v.rc)
  c8 : w.cell? ⟨b, 8, none⟩ = some (.slice v.to v.tn v.tc)
theorem BxT.cells {w : World} {b : Nat} {v : StV} {x : Stt} (h : BxT w b v x) : CelT w b v x := by
  unfold BxT at h
  refine ⟨?_, ?_, ?_, ?_, ?_, ?_, ?_, ?_, ?_⟩ <;> simp [World.cell?, h, stC]
theorem BxT.free {w : World} {b : Nat} {v : StV} {x : Stt} (h : BxT w b v x) (i : Nat) : w.frozen? ⟨b, i, none⟩ = false := frozen_of_row w b i _ 28 h
theorem bxT_new (w : World) (v : StV) (x : Stt) : BxT (w.alloc (.cells (stC v x) 28)) w.heap.size v x := heap_alloc_new w _
/-- The box that a call lays at first, and what it keeps. -/
theorem st_box (w : World) (v : StV) (x : Stt) : Below w.heap.size w (w.alloc (.cells (stC v x) 28)) := (Below.refl _ _).alloc (Nat.le_refl _) _
end Go.Proofs.YtpbljjbhfhfmgaaGreatDoor
/- state's closures on a slot, and state.find with each of them, by their contracts. -/
namespace Go.Proofs.YtpbljjbhfhfmgaaGreatDoor
set_option maxRecDepth 100000
open Go.RowKit
set_option linter.unusedVariables false
set_option linter.unusedSimpArgs false
set_option maxRecDepth 100000


theorem cl_two (g0 : Int) (lv tw : Bool) (p ln : Int) (w : World) :
    Calls Tryz.prog 26 #[.agg #[.int .i64 g0, .bool lv, .bool tw, .int .i64 p, .int .i64 ln]] w fun e w' => e = .returned (.bool (isTwo ⟨g0, lv, tw, p, ln⟩)) ∧ Below w.heap.size w w' := by
  have hb : Below w.heap.size w (w.alloc (.cells #[.int .i64 g0, .bool lv, .bool tw, .int .i64 p, .int .i64 ln] 55)) := (Below.refl _ _).alloc (Nat.le_refl _) _
  cases lv <;> cases tw
  all_goals
    go_enter Tryz.func26, Tryz.ntmps26
    go_wp2
    go_ret
    exact ⟨rfl, hb⟩
set_option maxHeartbeats 1000000 in
theorem find_two (ao : Option Addr) (n cap : Nat) (l : List Slt) (w : World) (h : Tb w ao n cap l) (hn : n ≤ 1000000) :
    Calls Tryz.prog 25 #[.slice ao n cap, .func (.func 26) #[] #[]] w fun e w' => ∃ bo m c, e = .returned (.slice bo m c) ∧ Own .i64 3 w.heap.size w' bo m c (fiL isTwo l) ∧ m ≤ n ∧ Below w.heap.size w w' := by
  have hl := h.len
  go_enter Tryz.func25, Tryz.ntmps25
  go_wp2
  go_loopw [5, 9] (fun s5 s9 wr => ∃ (k : Nat) (bo : Option Addr) (m c : Nat) (xs : List Int), k ≤ n ∧ s9 = .int .i64 k ∧ s5 = .slice bo m c ∧ Hid (Own .i64 3 w.heap.size wr bo m c xs) ∧ Hid (xs = fiN isTwo l k) ∧ m ≤ k ∧ Hid (Below w.heap.size w wr)) (fun _ s9 _ => n - (intOf s9).toNat)
  case atStart => exact ⟨0, none, 0, 0, [], Nat.zero_le _, rfl, rfl, hid (own_nil _ _ _ _), hid rfl, Nat.le_refl _, hid (Below.refl _ _)⟩
  case round =>
    obtain ⟨k, bo, m, c, xs, hk, rfl, rfl, HO, HX, hm, HB⟩ := hrel
    by_cases hlt : k < n
    · obtain ⟨b, off, rfl, _, _⟩ := h.here (by omega)
      have hs5 := h.at HB.out hlt
      have hki : (k : Int) < (n : Int) := by omega
      have HY : Hid (isTwo (sg l k) = true → fiN isTwo l (k + 1) = xs ++ [(k : Int)]) := fun e => by rw [fiN_yes e, HX.out]
      have HN : Hid (isTwo (sg l k) = false → fiN isTwo l (k + 1) = xs) := fun e => by rw [fiN_no e, HX.out]
      generalize sg l k = s at *
      obtain ⟨g0, lv, tw, p, ln⟩ := s
      obtain ⟨c0, c1, c2, c3, c4⟩ := hs5
      simp only at c0 c1 c2 c3 c4
      have cC := cl_two g0 lv tw p ln wr
      have hm8 : (m + 1) * 8 ≤ 140737488355328 := by omega
      clear h HX
      cases hp : isTwo ⟨g0, lv, tw, p, ln⟩ with
      | true =>
        rw [hp] at cC
        have HY2 := hid (HY.out hp)
        clear HY HN hp
        go_wp2_with (first
          | (go_at_call 26; with_reducible refine cC.mono ?_; rintro e w1 ⟨rfl, hb1⟩; have hbA := hb1.alloc hb1.size (.cells #[.int .i64 (k : Int)] 3); have HO1 := hid (HO.out.below hbA); have HS1 := hid (sl_int w1 w1.heap.size (k : Int) rfl); have HBA := hid (next HB.out hbA); have hsz := HBA.out.size; clear hb1 hbA)
          | (at_builtin; refine append_il rfl (.tmp 18) (.tmp 20) rfl w.heap.size _ m xs rfl HO1.out.row (some ⟨w1.heap.size, 0, none⟩) 1 1 [(k : Int)] rfl HS1.out hm8 hsz ?_; intro bo2 c2' w2 ho2 hg2 _; have HO2 := hid ho2; have HB2 := hid (HBA.out.grown hg2 hsz (fun j hj => (HO1.out.row.lt j hj).1)); clear ho2 hg2))
        go_roundw
        case rel => exact ⟨k + 1, bo2, m + 1, c2', xs ++ [(k : Int)], by omega, by go_num, rfl, HO2, hid HY2.out.symm, by omega, HB2⟩
        case measure => simp [intOf]; omega
      | false =>
        rw [hp] at cC
        have HN2 := hid (HN.out hp)
        clear HY HN hp
        go_wp2_with (first
          | (go_at_call 26; with_reducible refine cC.mono ?_; rintro e w1 ⟨rfl, hb1⟩; have HO1 := hid (HO.out.below hb1); have HB1 := hid (next HB.out hb1); clear hb1))
        go_roundw
        case rel => exact ⟨k + 1, bo, m, c, xs, by omega, by go_num, rfl, HO1, hid HN2.out.symm, by omega, HB1⟩
        case measure => simp [intOf]; omega
    · obtain rfl : k = n := by omega
      have HK : Hid (xs = fiL isTwo l) := hid (by rw [HX.out]; unfold fiL; rw [hl])
      have hki : ¬ ((k : Int) < (k : Int)) := by omega
      clear h HX
      go_wp2
      go_ret
      exact ⟨bo, m, c, rfl, by rw [← HK.out]; exact HO.out, hm, HB.out⟩

theorem cl_one (g0 : Int) (lv tw : Bool) (p ln : Int) (w : World) :
    Calls Tryz.prog 37 #[.agg #[.int .i64 g0, .bool lv, .bool tw, .int .i64 p, .int .i64 ln]] w fun e w' => e = .returned (.bool (isOne ⟨g0, lv, tw, p, ln⟩)) ∧ Below w.heap.size w w' := by
  have hb : Below w.heap.size w (w.alloc (.cells #[.int .i64 g0, .bool lv, .bool tw, .int .i64 p, .int .i64 ln] 55)) := (Below.refl _ _).alloc (Nat.le_refl _) _
  cases lv <;> cases tw
  all_goals
    go_enter Tryz.func37, Tryz.ntmps37
    go_wp2
    go_ret
    exact ⟨rfl, hb⟩
set_option maxHeartbeats 1000000 in
theorem find_one (ao : Option Addr) (n cap : Nat) (l : List Slt) (w : World) (h : Tb w ao n cap l) (hn : n ≤ 1000000) :
    Calls Tryz.prog 25 #[.slice ao n cap, .func (.func 37) #[] #[]] w fun e w' => ∃ bo m c, e = .returned (.slice bo m c) ∧ Own .i64 3 w.heap.size w' bo m c (fiL isOne l) ∧ m ≤ n ∧ Below w.heap.size w w' := by
  have hl := h.len
  go_enter Tryz.func25, Tryz.ntmps25
  go_wp2
  go_loopw [5, 9] (fun s5 s9 wr => ∃ (k : Nat) (bo : Option Addr) (m c : Nat) (xs : List Int), k ≤ n ∧ s9 = .int .i64 k ∧ s5 = .slice bo m c ∧ Hid (Own .i64 3 w.heap.size wr bo m c xs) ∧ Hid (xs = fiN isOne l k) ∧ m ≤ k ∧ Hid (Below w.heap.size w wr)) (fun _ s9 _ => n - (intOf s9).toNat)
  case atStart => exact ⟨0, none, 0, 0, [], Nat.zero_le _, rfl, rfl, hid (own_nil _ _ _ _), hid rfl, Nat.le_refl _, hid (Below.refl _ _)⟩
  case round =>
    obtain ⟨k, bo, m, c, xs, hk, rfl, rfl, HO, HX, hm, HB⟩ := hrel
    by_cases hlt : k < n
    · obtain ⟨b, off, rfl, _, _⟩ := h.here (by omega)
      have hs5 := h.at HB.out hlt
      have hki : (k : Int) < (n : Int) := by omega
      have HY : Hid (isOne (sg l k) = true → fiN isOne l (k + 1) = xs ++ [(k : Int)]) := fun e => by rw [fiN_yes e, HX.out]
      have HN : Hid (isOne (sg l k) = false → fiN isOne l (k + 1) = xs) := fun e => by rw [fiN_no e, HX.out]
      generalize sg l k = s at *
      obtain ⟨g0, lv, tw, p, ln⟩ := s
      obtain ⟨c0, c1, c2, c3, c4⟩ := hs5
      simp only at c0 c1 c2 c3 c4
      have cC := cl_one g0 lv tw p ln wr
      have hm8 : (m + 1) * 8 ≤ 140737488355328 := by omega
      clear h HX
      cases hp : isOne ⟨g0, lv, tw, p, ln⟩ with
      | true =>
        rw [hp] at cC
        have HY2 := hid (HY.out hp)
        clear HY HN hp
        go_wp2_with (first
          | (go_at_call 37; with_reducible refine cC.mono ?_; rintro e w1 ⟨rfl, hb1⟩; have hbA := hb1.alloc hb1.size (.cells #[.int .i64 (k : Int)] 3); have HO1 := hid (HO.out.below hbA); have HS1 := hid (sl_int w1 w1.heap.size (k : Int) rfl); have HBA := hid (next HB.out hbA); have hsz := HBA.out.size; clear hb1 hbA)
          | (at_builtin; refine append_il rfl (.tmp 18) (.tmp 20) rfl w.heap.size _ m xs rfl HO1.out.row (some ⟨w1.heap.size, 0, none⟩) 1 1 [(k : Int)] rfl HS1.out hm8 hsz ?_; intro bo2 c2' w2 ho2 hg2 _; have HO2 := hid ho2; have HB2 := hid (HBA.out.grown hg2 hsz (fun j hj => (HO1.out.row.lt j hj).1)); clear ho2 hg2))
        go_roundw
        case rel => exact ⟨k + 1, bo2, m + 1, c2', xs ++ [(k : Int)], by omega, by go_num, rfl, HO2, hid HY2.out.symm, by omega, HB2⟩
        case measure => simp [intOf]; omega
      | false =>
        rw [hp] at cC
        have HN2 := hid (HN.out hp)
        clear HY HN hp
        go_wp2_with (first
          | (go_at_call 37; with_reducible refine cC.mono ?_; rintro e w1 ⟨rfl, hb1⟩; have HO1 := hid (HO.out.below hb1); have HB1 := hid (next HB.out hb1); clear hb1))
        go_roundw
        case rel => exact ⟨k + 1, bo, m, c, xs, by omega, by go_num, rfl, HO1, hid HN2.out.symm, by omega, HB1⟩
        case measure => simp [intOf]; omega
    · obtain rfl : k = n := by omega
      have HK : Hid (xs = fiL isOne l) := hid (by rw [HX.out]; unfold fiL; rw [hl])
      have hki : ¬ ((k : Int) < (k : Int)) := by omega
      clear h HX
      go_wp2
      go_ret
      exact ⟨bo, m, c, rfl, by rw [← HK.out]; exact HO.out, hm, HB.out⟩

theorem cl_live (g0 : Int) (lv tw : Bool) (p ln : Int) (w : World) :
    Calls Tryz.prog 59 #[.agg #[.int .i64 g0, .bool lv, .bool tw, .int .i64 p, .int .i64 ln]] w fun e w' => e = .returned (.bool (Slt.live ⟨g0, lv, tw, p, ln⟩)) ∧ Below w.heap.size w w' := by
  have hb : Below w.heap.size w (w.alloc (.cells #[.int .i64 g0, .bool lv, .bool tw, .int .i64 p, .int .i64 ln] 55)) := (Below.refl _ _).alloc (Nat.le_refl _) _
  cases lv <;> cases tw
  all_goals
    go_enter Tryz.func59, Tryz.ntmps59
    go_wp2
    go_ret
    exact ⟨rfl, hb⟩
set_option maxHeartbeats 1000000 in
theorem find_live (ao : Option Addr) (n cap : Nat) (l : List Slt) (w : World) (h : Tb w ao n cap l) (hn : n ≤ 1000000) :
    Calls Tryz.prog 25 #[.slice ao n cap, .func (.func 59) #[] #[]] w fun e w' => ∃ bo m c, e = .returned (.slice bo m c) ∧ Own .i64 3 w.heap.size w' bo m c (fiL Slt.live l) ∧ m ≤ n ∧ Below w.heap.size w w' := by
  have hl := h.len
  go_enter Tryz.func25, Tryz.ntmps25
  go_wp2
  go_loopw [5, 9] (fun s5 s9 wr => ∃ (k : Nat) (bo : Option Addr) (m c : Nat) (xs : List Int), k ≤ n ∧ s9 = .int .i64 k ∧ s5 = .slice bo m c ∧ Hid (Own .i64 3 w.heap.size wr bo m c xs) ∧ Hid (xs = fiN Slt.live l k) ∧ m ≤ k ∧ Hid (Below w.heap.size w wr)) (fun _ s9 _ => n - (intOf s9).toNat)
  case atStart => exact ⟨0, none, 0, 0, [], Nat.zero_le _, rfl, rfl, hid (own_nil _ _ _ _), hid rfl, Nat.le_refl _, hid (Below.refl _ _)⟩
  case round =>
    obtain ⟨k, bo, m, c, xs, hk, rfl, rfl, HO, HX, hm, HB⟩ := hrel
    by_cases hlt : k < n
    · obtain ⟨b, off, rfl, _, _⟩ := h.here (by omega)
      have hs5 := h.at HB.out hlt
      have hki : (k : Int) < (n : Int) := by omega
      have HY : Hid (Slt.live (sg l k) = true → fiN Slt.live l (k + 1) = xs ++ [(k : Int)]) := fun e => by rw [fiN_yes e, HX.out]
      have HN : Hid (Slt.live (sg l k) = false → fiN Slt.live l (k + 1) = xs) := fun e => by rw [fiN_no e, HX.out]
      generalize sg l k = s at *
      obtain ⟨g0, lv, tw, p, ln⟩ := s
      obtain ⟨c0, c1, c2, c3, c4⟩ := hs5
      simp only at c0 c1 c2 c3 c4
      have cC := cl_live g0 lv tw p ln wr
      have hm8 : (m + 1) * 8 ≤ 140737488355328 := by omega
      clear h HX
      cases hp : Slt.live ⟨g0, lv, tw, p, ln⟩ with
      | true =>
        rw [hp] at cC
        have HY2 := hid (HY.out hp)
        clear HY HN hp
        go_wp2_with (first
          | (go_at_call 59; with_reducible refine cC.mono ?_; rintro e w1 ⟨rfl, hb1⟩; have hbA := hb1.alloc hb1.size (.cells #[.int .i64 (k : Int)] 3); have HO1 := hid (HO.out.below hbA); have HS1 := hid (sl_int w1 w1.heap.size (k : Int) rfl); have HBA := hid (next HB.out hbA); have hsz := HBA.out.size; clear hb1 hbA)
          | (at_builtin; refine append_il rfl (.tmp 18) (.tmp 20) rfl w.heap.size _ m xs rfl HO1.out.row (some ⟨w1.heap.size, 0, none⟩) 1 1 [(k : Int)] rfl HS1.out hm8 hsz ?_; intro bo2 c2' w2 ho2 hg2 _; have HO2 := hid ho2; have HB2 := hid (HBA.out.grown hg2 hsz (fun j hj => (HO1.out.row.lt j hj).1)); clear ho2 hg2))
        go_roundw
        case rel => exact ⟨k + 1, bo2, m + 1, c2', xs ++ [(k : Int)], by omega, by go_num, rfl, HO2, hid HY2.out.symm, by omega, HB2⟩
        case measure => simp [intOf]; omega
      | false =>
        rw [hp] at cC
        have HN2 := hid (HN.out hp)
        clear HY HN hp
        go_wp2_with (first
          | (go_at_call 59; with_reducible refine cC.mono ?_; rintro e w1 ⟨rfl, hb1⟩; have HO1 := hid (HO.out.below hb1); have HB1 := hid (next HB.out hb1); clear hb1))
        go_roundw
        case rel => exact ⟨k + 1, bo, m, c, xs, by omega, by go_num, rfl, HO1, hid HN2.out.symm, by omega, HB1⟩
        case measure => simp [intOf]; omega
    · obtain rfl : k = n := by omega
      have HK : Hid (xs = fiL Slt.live l) := hid (by rw [HX.out]; unfold fiL; rw [hl])
      have hki : ¬ ((k : Int) < (k : Int)) := by omega
      clear h HX
      go_wp2
      go_ret
      exact ⟨bo, m, c, rfl, by rw [← HK.out]; exact HO.out, hm, HB.out⟩
end Go.Proofs.YtpbljjbhfhfmgaaGreatDoor
/- joistref18.Live by its contract. -/
namespace Go.Proofs.YtpbljjbhfhfmgaaGreatDoor
set_option maxRecDepth 100000
open Go.RowKit
set_option linter.unusedVariables false
set_option linter.unusedSimpArgs false
set_option maxRecDepth 100000

theorem rlive_any (v : StV) (x : Stt) (w : World) (h : Sta w v x) (hn : v.sn ≤ 1000000) :
    Calls Tryz.prog 22 #[.agg (stC v x)] w fun e w' => e = .returned (.int .i64 (liL x.sl : Nat)) ∧ Below w.heap.size w w' := by
  have hb0 := st_box w v x
  have hB := bxT_new w v x
  have hs := h.s.below hb0
  have hl := h.s.len
  obtain ⟨shp, md, bs, sl, rt, dt⟩ := x
  obtain ⟨so, sn, sc, ro, rn, rc, to, tn, tc, A, N, C⟩ := v
  simp only [stC] at *
  go_enter Tryz.func22, Tryz.ntmps22
  go_wp2
  generalize w.alloc (.cells #[.int .i64 shp.pg, .int .i64 shp.sl, .int .i64 shp.rt, .int .i64 shp.rm, .int .i64 md, .int .i64 bs, .slice so sn sc, .slice ro rn rc, .slice to tn tc] 28) = W0 at *
  go_loopw [3, 4] (fun s3 s4 wr => ∃ k : Nat, k ≤ sn ∧ s4 = .int .i64 k ∧ s3 = .int .i64 (liN sl k : Nat) ∧ W0 = wr) (fun _ s4 _ => sn - (intOf s4).toNat)
  case atStart => exact ⟨0, Nat.zero_le _, rfl, rfl, rfl⟩
  case round =>
    obtain ⟨k, hk, rfl, rfl, rfl⟩ := hrel
    have c6 := hB.cells.c6
    simp only at c6
    have hle := liN_le sl k
    by_cases hlt : k < sn
    · obtain ⟨b, off, rfl, _, hc⟩ := hs.here (by omega)
      have c1 := (hc k hlt).c1
      have hki : (k : Int) < (sn : Int) := by omega
      have hlen : sl.length = sn := hl
      cases hv : (sg sl k).live with
      | true =>
        have HK : Hid (liN sl (k + 1) = liN sl k + 1) := hid (by simp [liN, hv])
        rw [hv] at c1
        clear hs hc hB h hb0 hv
        generalize liN sl k = q at *
        go_wp2
        go_roundw
        case rel => exact ⟨k + 1, by omega, by go_num, by rw [HK.out]; go_num, trivial⟩
        case measure => simp [intOf]; omega
      | false =>
        have HK : Hid (liN sl (k + 1) = liN sl k) := hid (by simp [liN, hv])
        rw [hv] at c1
        clear hs hc hB h hb0 hv
        generalize liN sl k = q at *
        go_wp2
        go_roundw
        case rel => exact ⟨k + 1, by omega, by go_num, by rw [HK.out], trivial⟩
        case measure => simp [intOf]; omega
    · obtain rfl : k = sn := by omega
      have hki : ¬ ((k : Int) < (k : Int)) := by omega
      have HK : Hid (liL sl = liN sl k) := hid (by unfold liL; rw [hl])
      clear hs hB h
      go_wp2
      go_ret
      exact ⟨by rw [HK.out]; rfl, hb0⟩
end Go.Proofs.YtpbljjbhfhfmgaaGreatDoor
