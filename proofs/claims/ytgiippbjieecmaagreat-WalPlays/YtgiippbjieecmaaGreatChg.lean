/- Slices of changes: one that can be read; one of the call's own. -/
import Derived.Test.YtgiippbjieecmaaGreatMgM
import Derived.Test.YtgiippbjieecmaaGreatLine
import Derived.Test.YtgiippbjieecmaaGreatOwned
namespace Go.Proofs.YtgiippbjieecmaaGreat
set_option maxRecDepth 100000
open Go.RowKit
set_option linter.unusedVariables false

/-- A change: its line, where its bytes are, which. -/
structure ChD where
  line : Int
  ba : Option Addr
  bl : Nat
  bc : Nat
  bz : List Int
instance : Inhabited ChD := ⟨⟨0, none, 0, 0, []⟩⟩
/-- What it says. -/
abbrev Chg := Int × List Int
def ChD.says (c : ChD) : Chg := (c.line, c.bz)
def ChD.v (c : ChD) : Value := .agg #[.int .i64 c.line, .slice c.ba c.bl c.bc]
structure ChOk (w : World) (c : ChD) : Prop where
  r : Rg c.line
  bs : Sl .u8 w c.ba c.bl c.bc c.bz
  by_ : Bytes c.bz
  bm : c.bc ≤ 9223372036854775807
/-- A slice of n changes that can be read. -/
structure Chs (w : World) (ao : Option Addr) (n : Nat) (D : Nat → ChD) : Prop where
  fit : n ≤ 9223372036854775807
  here : 0 < n → ∃ b off, ao = some ⟨b, off, none⟩ ∧ b < w.heap.size ∧ ∀ i, i < n → w.cell? ⟨b, off + i * 2, none⟩ = some (.int .i64 (D i).line) ∧ w.cell? ⟨b, off + i * 2 + 1, none⟩ = some (.slice (D i).ba (D i).bl (D i).bc)
  ok : ∀ i, i < n → ChOk w (D i)
/-- What they say, the first k. -/
def saysN (D : Nat → ChD) (k : Nat) : List Chg := (List.range k).map fun i => (D i).says
theorem saysN_succ (D : Nat → ChD) (k : Nat) : saysN D (k + 1) = saysN D k ++ [(D k).says] := by simp [saysN, List.range_succ]
theorem saysN_length (D : Nat → ChD) (k : Nat) : (saysN D k).length = k := by simp [saysN]
theorem saysN_get (D : Nat → ChD) {k i : Nat} (h : i < k) : (saysN D k)[i]? = some (D i).says := by simp [saysN, h]

theorem ChOk.below {w w' : World} {c : ChD} (h : ChOk w c) (hb : Below w.heap.size w w') : ChOk w' c := ⟨h.r, h.bs.below hb, h.by_, h.bm⟩
theorem Chs.below {w w' : World} {ao : Option Addr} {n : Nat} {D : Nat → ChD} (h : Chs w ao n D) (hb : Below w.heap.size w w') : Chs w' ao n D := by
  refine ⟨h.fit, fun hn => ?_, fun i hi => (h.ok i hi).below hb⟩
  obtain ⟨b, off, e, hlt, hc⟩ := h.here hn
  refine ⟨b, off, e, Nat.lt_of_lt_of_le hlt hb.size, fun i hi => ?_⟩
  rw [hb.cell (p := ⟨b, off + i * 2, none⟩) hlt, hb.cell (p := ⟨b, off + i * 2 + 1, none⟩) hlt]
  exact hc i hi

def ChD.cells (c : ChD) : List Value := [.int .i64 c.line, .slice c.ba c.bl c.bc]
def cellsN (D : Nat → ChD) : Nat → List Value
  | 0 => []
  | k + 1 => cellsN D k ++ (D k).cells
theorem cellsN_length (D : Nat → ChD) (k : Nat) : (cellsN D k).length = k * 2 := by
  induction k with
  | zero => rfl
  | succ k ih => simp [cellsN, ih, ChD.cells]; omega
theorem cellsN_get (D : Nat → ChD) {k i : Nat} (h : i < k) : (cellsN D k)[i * 2]? = some (.int .i64 (D i).line) ∧ (cellsN D k)[i * 2 + 1]? = some (.slice (D i).ba (D i).bl (D i).bc) := by
  induction k with
  | zero => omega
  | succ k ih =>
    have hl := cellsN_length D k
    by_cases e : i = k
    · subst e
      simp only [cellsN, ChD.cells]
      rw [List.getElem?_append_right (by omega), List.getElem?_append_right (by omega), hl]
      simp
    · have := ih (by omega)
      simp only [cellsN]
      rw [List.getElem?_append_left (by omega), List.getElem?_append_left (by omega)]
      exact this
theorem cellsN_congr {D E : Nat → ChD} {k : Nat} (h : ∀ i, i < k → D i = E i) : cellsN D k = cellsN E k := by
  induction k with
  | zero => rfl
  | succ k ih => simp only [cellsN]; rw [ih (fun i hi => h i (by omega)), h k (by omega)]

/-- A slice of n changes of the call's own, in blocks from B on, in all depths. -/
structure OwnC (B : Nat) (w : World) (ao : Option Addr) (n cap : Nat) (D : Nat → ChD) : Prop where
  row : w.ownsRow B 49 2 (.slice ao n cap) n (cellsN D n)
  own : ∀ i, i < n → Own .u8 5 B w (D i).ba (D i).bl (D i).bc (D i).bz ∧ Rg (D i).line ∧ Bytes (D i).bz

theorem ownC_nil (B : Nat) (w : World) (D : Nat → ChD) : OwnC B w none 0 0 D := ⟨World.ownsRow_nil _ _ _ _, fun i hi => absurd hi (by omega)⟩
theorem OwnC.fit {B : Nat} {w : World} {ao : Option Addr} {n cap : Nat} {D : Nat → ChD} (h : OwnC B w ao n cap D) : n ≤ cap ∧ cap ≤ 9223372036854775807 := by
  rcases h.row.2 with ⟨hv, hn⟩ | ⟨g, cap', cur, hv, hg, hh, hc, hm, r⟩
  · simp only [Value.slice.injEq] at hv
    obtain ⟨rfl, rfl, rfl⟩ := hv
    exact ⟨Nat.le_refl _, by omega⟩
  · simp only [Value.slice.injEq] at hv
    obtain ⟨rfl, _, rfl⟩ := hv
    exact ⟨hc, by simpa [maxLen] using hm⟩
theorem OwnC.chs {B : Nat} {w : World} {ao : Option Addr} {n cap : Nat} {D : Nat → ChD} (h : OwnC B w ao n cap D) : Chs w ao n D := by
  have hf := h.fit
  refine ⟨by omega, fun hn => ?_, fun i hi => ?_⟩
  · rcases h.row.2 with ⟨hv, h0⟩ | ⟨g, cap', cur, hv, hg, hh, hc, hm, hs, ht⟩
    · omega
    · simp only [Value.slice.injEq] at hv
      obtain ⟨rfl, _, rfl⟩ := hv
      refine ⟨g, 0, rfl, (Array.getElem?_eq_some_iff.1 hh).1, fun i hi => ?_⟩
      obtain ⟨c1, c2⟩ := cellsN_get D hi
      rw [Nat.zero_add, cell_of_row w g _ cur 49 (0, 0) hh, cell_of_row w g _ cur 49 (0, 0) hh]
      rw [← ht, List.getElem?_take, if_pos (by omega)] at c1 c2
      rw [Array.getElem?_toList] at c1 c2
      exact ⟨c1, c2⟩
  · obtain ⟨h1, h2, h3⟩ := h.own i hi
    exact ⟨h2, h1.sl, h3, h1.cap_le.2⟩
/-- The row of changes is in no block of bytes. -/
theorem OwnC.ne {B : Nat} {w : World} {a : Addr} {n cap : Nat} {D : Nat → ChD} (h : OwnC B w (some a) n cap D) {i : Nat} (hi : i < n) {c : Addr} (hc : (D i).ba = some c) : c.block ≠ a.block := by
  intro e
  rcases h.row.2 with ⟨hv, h0⟩ | ⟨g, cap', cur, hv, hg, hh, _⟩
  · simp at hv
  · simp only [Value.slice.injEq, Option.some.injEq] at hv
    obtain ⟨rfl, _⟩ := hv
    rcases (h.own i hi).1.row.2 with ⟨hv, h0⟩ | ⟨g', cap'', cur', hv, hg', hh', _⟩
    · simp only [Value.slice.injEq] at hv
      rw [hc] at hv
      simp at hv
    · simp only [Value.slice.injEq] at hv
      rw [hc] at hv
      simp only [Option.some.injEq] at hv
      obtain ⟨rfl, _⟩ := hv
      simp only at e
      subst e
      rw [hh] at hh'
      simp at hh'
theorem OwnC.below {B : Nat} {w w' : World} {ao : Option Addr} {n cap : Nat} {D : Nat → ChD} (h : OwnC B w ao n cap D) (hb : Below w.heap.size w w') : OwnC B w' ao n cap D := by
  refine ⟨⟨h.row.1, ?_⟩, fun i hi => ⟨(h.own i hi).1.below hb, (h.own i hi).2⟩⟩
  rcases h.row.2 with hn | ⟨g, cap', cur, hv, hg, hh, r⟩
  · exact Or.inl hn
  · refine Or.inr ⟨g, cap', cur, hv, hg, ?_, r⟩
    rw [hb.block g (Array.getElem?_eq_some_iff.1 hh).1]
    exact hh
theorem OwnC.off {F : Nat → Prop} {B : Nat} {w w' : World} {ao : Option Addr} {n cap : Nat} {D : Nat → ChD} (h : OwnC B w ao n cap D) (ho : Off F w w') (hF : ∀ j, F j → j < B) : OwnC B w' ao n cap D := by
  refine ⟨⟨h.row.1, ?_⟩, fun i hi => ⟨(h.own i hi).1.off ho (fun c hc hf => ?_), (h.own i hi).2⟩⟩
  · rcases h.row.2 with hn | ⟨g, cap', cur, hv, hg, hh, r⟩
    · exact Or.inl hn
    · refine Or.inr ⟨g, cap', cur, hv, hg, ?_, r⟩
      rw [ho.block g (Array.getElem?_eq_some_iff.1 hh).1 (fun hf => by have := hF g hf; omega)]
      exact hh
  · have h1 := hF _ hf
    rcases (h.own i hi).1.row.2 with ⟨hv, _⟩ | ⟨g', cap'', cur', hv, hg', hh', _⟩
    · simp only [Value.slice.injEq] at hv
      rw [hc] at hv
      simp at hv
    · simp only [Value.slice.injEq] at hv
      rw [hc] at hv
      simp only [Option.some.injEq] at hv
      obtain ⟨rfl, _⟩ := hv
      simp only at h1
      omega

theorem Tryz.info49 : (Tryz.prog.info? 49).map (fun i => (i.zero, i.size, i.bytes)) = some (some (.agg #[.int .i64 0, .slice none 0 0]), 2, 32) := by kernel_rfl
theorem own_sliceC {w : World} {B : Nat} {e : TypeId} {s : Nat} {v : Value} {n : Nat} {xs : List Value} (h : w.ownsRow B e s v n xs) : ∃ bo c, v = .slice bo n c := by
  rcases h.2 with ⟨h0, hn⟩ | ⟨g, cap, cur, rfl, _⟩
  · subst hn
    exact ⟨none, 0, h0⟩
  · exact ⟨_, _, rfl⟩
def put1 (D : Nat → ChD) (k : Nat) (c : ChD) : Nat → ChD := fun i => if i = k then c else D i
theorem put1_here (D : Nat → ChD) (k : Nat) (c : ChD) : put1 D k c k = c := by simp [put1]
theorem put1_cells (D : Nat → ChD) (k : Nat) (c : ChD) : cellsN (put1 D k c) (k + 1) = cellsN D k ++ c.cells := by
  simp only [cellsN, put1_here]
  rw [cellsN_congr (E := D) (fun i hi => by simp [put1]; intro h; omega)]
theorem saysN_congr {D E : Nat → ChD} {k : Nat} (h : ∀ i, i < k → D i = E i) : saysN D k = saysN E k := by
  unfold saysN
  refine List.map_congr_left fun i hi => ?_
  rw [h i (by simpa using hi)]
theorem put1_says (D : Nat → ChD) (k : Nat) (c : ChD) : saysN (put1 D k c) (k + 1) = saysN D k ++ [c.says] := by
  rw [saysN_succ, put1_here, saysN_congr (E := D) (fun i hi => by simp [put1]; intro h; omega)]

/-- 'append(l, c)' for one change c: l of the call's own; c's row of one. -/
theorem append_chg {w : World} {ops : Array Oper} {rest : List Oper} {o : Oper} {a : Act} {Q : Exit → Act → World → Prop} (hgd : o.guard = none) (s x : Operand)
    (ho : o.op = .call { callee := .builtin .append, args := #[s, x], argTypes := #[34, 34] })
    (B : Nat) (ao : Option Addr) (n cap : Nat) (D : Nat → ChD) (hs : a.eval s = .slice ao n cap) (hown : OwnC B w ao n cap D)
    (ad : Addr) (m : Nat) (C : ChD) (hx : a.eval x = .slice (some ad) 1 m) (hc0 : w.cell? ad = some (.int .i64 C.line)) (hc1 : w.cell? (ad.add 1) = some (.slice C.ba C.bl C.bc)) (hC : Own .u8 5 B w C.ba C.bl C.bc C.bz ∧ Rg C.line ∧ Bytes C.bz)
    (hb : (n + 1) * 32 ≤ 140737488355328) (hB : B ≤ w.heap.size)
    (h : ∀ bo c' w', OwnC B w' bo (n + 1) c' (put1 D n C) → w.grownBy w' (Value.slice ao n cap).ownBlock → wpList Tryz.prog ops Q rest (a.put o.dst (.slice bo (n + 1) c')) w') : wpList Tryz.prog ops Q (o :: rest) a w := by
  obtain ⟨i0, hi, hz0, hz1, hz2⟩ := info_parts Tryz.info49
  refine wpList_append_own _ hgd s x 34 ho B 49 i0 (.agg #[.int .i64 0, .slice none 0 0]) 2 32 Tryz.underlying34 hi hz0 hz1 hz2 rfl (by decide) _ n _ hs hown.row ad 1 m C.cells hx rfl ?_ ?_ (by unfold maxLen; omega) (by omega) hB ?_
  · intro j u hu
    match j, hu with
    | 0, hu => simp [ChD.cells] at hu; subst hu; simpa [Addr.add] using hc0
    | 1, hu => simp [ChD.cells] at hu; subst hu; exact hc1
  · intro u hu
    simp [ChD.cells] at hu
    rcases hu with rfl | rfl <;> rfl
  · intro v' w' hown' hgrow hnil
    obtain ⟨bo, c', rfl⟩ := own_sliceC hown'
    refine h bo c' w' ⟨by rw [put1_cells]; exact hown', fun i hi => ?_⟩ hgrow
    have key : ∀ (k : Nat) (b : Option Addr) (l c : Nat) (zs : List Int), Own .u8 5 B w b l c zs → Own .u8 5 B w' b l c zs := fun k b l c zs hk => by
      refine hk.off (F := fun j => some j = (Value.slice ao n cap).ownBlock) (Off.of_grown hgrow (fun j hj => Or.inl hj.symm)) (fun q hq hf => ?_)
      cases ao with
      | none => simp [Value.ownBlock] at hf
      | some a0 =>
        simp only [Value.ownBlock, Option.some.injEq] at hf
        rcases hown.row.2 with ⟨hv, _⟩ | ⟨g, cap', cur, hv, hg, hh, _⟩
        · simp at hv
        · simp only [Value.slice.injEq, Option.some.injEq] at hv
          obtain ⟨rfl, _⟩ := hv
          rcases hk.row.2 with ⟨hv, h0⟩ | ⟨g', cap'', cur', hv, hg', hh', _⟩
          · simp only [Value.slice.injEq] at hv
            rw [hq] at hv
            simp at hv
          · simp only [Value.slice.injEq] at hv
            rw [hq] at hv
            simp only [Option.some.injEq] at hv
            obtain ⟨rfl, _⟩ := hv
            simp only at hf
            subst hf
            rw [hh] at hh'
            simp at hh'
    by_cases e : i = n
    · subst e
      rw [put1_here]
      exact ⟨key 0 _ _ _ _ hC.1, hC.2⟩
    · have e1 : put1 D n C i = D i := by simp [put1, e]
      rw [e1]
      have := hown.own i (by omega)
      exact ⟨key 0 _ _ _ _ this.1, this.2⟩
end Go.Proofs.YtgiippbjieecmaaGreat
