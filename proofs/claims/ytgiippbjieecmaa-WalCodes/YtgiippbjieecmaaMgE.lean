/- Line · Chg · DiffP · Apply · Right · Few · OpenChg: these texts, one behind another. -/
import Derived.Test.YtgiippbjieecmaaMgA
import Derived.Test.YtgiippbjieecmaaMgB
import Derived.Deep.Slices
import Derived.Deep.Grids
/- lines.isImage, count, line, copied, fits and bytes.Equal by their contracts. -/
namespace Go.Proofs.Ytgiippbjieecmaa
open Go.RowKit

theorem text_eq {a b : List Int} (ha : Bytes a) (hb : Bytes b) : ((strOfNums a).toList == (strOfNums b).toList) = decide (a = b) := by
  rw [Lib.strOfNums_toList, Lib.strOfNums_toList]
  have key : a.map (fun z : Int => z.toNat.toUInt8) = b.map (fun z : Int => z.toNat.toUInt8) → a = b := by
    intro h
    apply List.ext_getElem?
    intro i
    have h1 := congrArg (·[i]?) h
    simp only [List.getElem?_map] at h1
    rcases e1 : a[i]? with _ | x <;> rcases e2 : b[i]? with _ | y <;> rw [e1, e2] at h1 <;> simp only [Option.map_some, Option.map_none, Option.some.injEq, reduceCtorEq] at h1 ⊢
    have hx := ha x (List.mem_of_getElem? e1)
    have hy := hb y (List.mem_of_getElem? e2)
    have h2 := congrArg UInt8.toNat h1
    simp at h2
    omega
  by_cases h : a = b
  · simp [h]
  · rw [decide_eq_false h]
    simp only [beq_eq_false_iff_ne]
    exact fun e => h (key e)

/-- Are bytes whole lines? -/
def imgB (n : Nat) : Bool := decide (n % 64 = 0)
/-- Line i. -/
def lin (zs : List Int) (i : Nat) : List Int := (zs.drop (64 * i)).take 64
def eqB (a b : List Int) : Bool := decide (a = b)
theorem eqB_t {a b : List Int} (h : a = b) : eqB a b = true := by simp [eqB, h]
theorem eqB_f {a b : List Int} (h : ¬ a = b) : eqB a b = false := by simp [eqB, h]
def fitsB (n : Int) (line : Int) (bl : Nat) : Bool := decide (0 ≤ line ∧ line < n ∧ bl = 64)
theorem fitsB_t {n line : Int} {bl : Nat} (h : fitsB n line bl = true) : 0 ≤ line ∧ line < n ∧ bl = 64 := by simpa [fitsB] using h
theorem fitsB_mk {n line : Int} {bl : Nat} (h : 0 ≤ line ∧ line < n ∧ bl = 64) : fitsB n line bl = true := by simp [fitsB, h]
theorem lin_length {zs : List Int} {i : Nat} (h : 64 * i + 64 ≤ zs.length) : (lin zs i).length = 64 := by simp [lin]; omega
theorem lin_bytes {zs : List Int} (h : Bytes zs) (i : Nat) : Bytes (lin zs i) := (h.drop _).take _

theorem isImage_any (ao : Option Addr) (n cap : Nat) (w : World) (hn : n ≤ 9223372036854775807) :
    Calls Try.prog 55 #[.slice ao n cap] w fun e w' => e = .returned (.bool (imgB n)) ∧ w = w' := by
  go_enter Try.func55, Try.ntmps55
  go_wp2
  go_ret
  refine ⟨ret_bool ?_, rfl⟩
  rw [imgB, Bool.eq_iff_iff, beq_iff_eq, decide_eq_true_eq]
  omega
theorem count_any (ao : Option Addr) (n cap : Nat) (w : World) (hn : n ≤ 9223372036854775807) :
    Calls Try.prog 57 #[.slice ao n cap] w fun e w' => e = .returned (.int .i64 (n / 64 : Nat)) ∧ w = w' := by
  go_enter Try.func57, Try.ntmps57
  go_wp2
  go_ret
  exact ⟨by simp, rfl⟩
theorem line_any (b off n cap i : Nat) (w : World) (h : 64 * i + 64 ≤ n) (hr : n ≤ cap) (hc : cap ≤ 9223372036854775807) :
    Calls Try.prog 59 #[.slice (some ⟨b, off, none⟩) n cap, .int .i64 i] w fun e w' => e = .returned (.slice (some ⟨b, off + 64 * i, none⟩) 64 (cap - 64 * i)) ∧ w = w' := by
  have h1 : (i : Int) * 64 = ((64 * i : Nat) : Int) := by omega
  have h2 : ¬ cap = 64 * i := by omega
  go_enter Try.func59, Try.ntmps59
  go_wp2
  go_ret
  have e : 64 * i + 64 - 64 * i = 64 := by omega
  rw [e]
  exact ⟨rfl, rfl⟩
theorem equal_any (ao : Option Addr) (n cap : Nat) (xs : List Int) (bo : Option Addr) (m c : Nat) (ys : List Int) (w : World) (h : Sl .u8 w ao n cap xs) (g : Sl .u8 w bo m c ys) (hx : Bytes xs) (hy : Bytes ys) :
    Calls Try.prog 71 #[.slice ao n cap, .slice bo m c] w fun e w' => e = .returned (.bool (eqB xs ys)) ∧ w = w' := by
  have hc1 := h.text (P := Try.prog) Try.underlying27 Try.underlying5 Try.underlying9
  have hc2 := g.text (P := Try.prog) Try.underlying27 Try.underlying5 Try.underlying9
  clear h g
  go_enter Try.func71, Try.ntmps71
  go_wp2
  go_ret
  exact ⟨ret_bool (text_eq hx hy), rfl⟩
theorem lfits_any (n line : Int) (ba : Option Addr) (bl bc : Nat) (w : World) :
    Calls Try.prog 56 #[.int .i64 n, .agg #[.int .i64 line, .slice ba bl bc]] w fun e w' => e = .returned (.bool (fitsB n line bl)) ∧ Below w.heap.size w w' := by
  go_enter Try.func56, Try.ntmps56
  go_wp2
  all_goals (go_ret; refine ⟨ret_bool ?_, (Below.refl _ _).alloc (Nat.le_refl _) _⟩)
  all_goals (rw [fitsB, Bool.eq_iff_iff, decide_eq_true_eq]; simp; omega)
theorem copied_any (ao : Option Addr) (n cap : Nat) (zs : List Int) (w : World) (h : Sl .u8 w ao n cap zs) (hn : n ≤ 140737488355328) :
    Calls Try.prog 58 #[.slice ao n cap] w fun e w' => e = .returned (.slice (some ⟨w.heap.size, 0, none⟩) n n) ∧ Own .u8 5 w.heap.size w' (some ⟨w.heap.size, 0, none⟩) n n zs ∧ Below w.heap.size w w' := by
  have hlen := h.len
  obtain ⟨i0, hi, hz0, hz1, hz2⟩ := info_parts Try.info5
  have hcopy : ∀ w1, Below w.heap.size w w1 → 0 < (zs.map (Value.int .u8)).length → (some (⟨w.heap.size, 0, none⟩ : Addr) = some ⟨w.heap.size, 0, none⟩) ∧ ∃ ad, ao = some ad ∧ ∀ j v, (zs.map (Value.int .u8))[j]? = some v → w1.cell? (ad.add j) = some v := fun w1 hb hp => by
    rw [List.length_map] at hp
    obtain ⟨b, off, rfl, hlt, hc⟩ := h.here (by omega)
    refine ⟨rfl, _, rfl, fun j v hv => ?_⟩
    have hj : j < zs.length := by simpa using (List.getElem?_eq_some_iff.1 hv).1
    rw [Addr.add_lit, hb.cell (p := ⟨b, off + j, none⟩) hlt, hc j (by omega)]
    simp only [List.getElem?_map, List.getElem?_eq_getElem hj, Option.map_some, Option.some.injEq] at hv
    subst hv
    simp [List.getD, List.getElem?_eq_getElem hj]
  have hmin : (zs.map (Value.int .u8)).length = Nat.min n n := by simp [hlen]
  have hfit : 0 + (zs.map (Value.int .u8)).length ≤ (List.replicate n (Value.int .u8 0)).length := by simp [hlen]
  have hspl : splice (List.replicate n (Value.int .u8 0)) 0 (zs.map (Value.int .u8)) = zs.map (Value.int .u8) := by
    simp [splice, hlen]
  go_enter Try.func58, Try.ntmps58
  go_wp2_with (first
    | (at_make; refine wpList_make_some _ rfl _ _ 27 rfl 5 i0 (.int .u8 0) Try.underlying27 hi hz0 hz1 rfl .i64 .i64 _ _ n n rfl rfl rfl rfl (Nat.le_refl _) (by rw [hz2]; omega) (by unfold maxLen; omega) ?_; intro w1 HG1 hb1)
    | (with_reducible refine wpList_copy_splice rfl (.tmp 7) (.tmp 8) 27 27 rfl 5 Try.underlying27 (by rw [hi]; simp [hz1]) _ _ _ _ _ _ rfl rfl w.heap.size 0 (List.replicate n (.int .u8 0)) 5 HG1.out (zs.map (Value.int .u8)) hmin (hcopy w1 hb1) hfit (ints_oneCell _ _) w.heap.size w hb1 (Nat.le_refl _) ?_; intro w2 HG2 hb2))
  go_ret
  have hg2 := HG2.out
  rw [hspl] at hg2
  refine ⟨rfl, ⟨hlen, by simp [hlen], Or.inr ⟨w.heap.size, n, _, rfl, Nat.le_refl _, hg2, Nat.le_refl _, by unfold maxLen; omega, by simp [hlen], by rw [Nat.mul_one, List.take_of_length_le (by simp [hlen])]⟩⟩, hb2⟩
end Go.Proofs.Ytgiippbjieecmaa
/- Slices of changes: one that can be read; one of the call's own. -/
namespace Go.Proofs.Ytgiippbjieecmaa
set_option maxRecDepth 100000
open Go.RowKit
set_option linter.unusedVariables false

/-- A change: its line, where its bytes are, which. -/
structure ChD where
  line : Int
  ba : Option Addr
  bl : Nat
  bc : Nat
  bz : List Int
instance : Inhabited ChD := ⟨⟨0, none, 0, 0, []⟩⟩
/-- What it says. -/
abbrev Chg := Int × List Int
def ChD.says (c : ChD) : Chg := (c.line, c.bz)
def ChD.v (c : ChD) : Value := .agg #[.int .i64 c.line, .slice c.ba c.bl c.bc]
structure ChOk (w : World) (c : ChD) : Prop where
  r : Rg c.line
  bs : Sl .u8 w c.ba c.bl c.bc c.bz
  by_ : Bytes c.bz
  bm : c.bc ≤ 9223372036854775807
/-- A slice of n changes that can be read. -/
structure Chs (w : World) (ao : Option Addr) (n : Nat) (D : Nat → ChD) : Prop where
  fit : n ≤ 9223372036854775807
  here : 0 < n → ∃ b off, ao = some ⟨b, off, none⟩ ∧ b < w.heap.size ∧ ∀ i, i < n → w.cell? ⟨b, off + i * 2, none⟩ = some (.int .i64 (D i).line) ∧ w.cell? ⟨b, off + i * 2 + 1, none⟩ = some (.slice (D i).ba (D i).bl (D i).bc)
  ok : ∀ i, i < n → ChOk w (D i)
/-- What they say, the first k. -/
def saysN (D : Nat → ChD) (k : Nat) : List Chg := (List.range k).map fun i => (D i).says
theorem saysN_succ (D : Nat → ChD) (k : Nat) : saysN D (k + 1) = saysN D k ++ [(D k).says] := by simp [saysN, List.range_succ]
theorem saysN_length (D : Nat → ChD) (k : Nat) : (saysN D k).length = k := by simp [saysN]
theorem saysN_get (D : Nat → ChD) {k i : Nat} (h : i < k) : (saysN D k)[i]? = some (D i).says := by simp [saysN, h]

theorem ChOk.below {w w' : World} {c : ChD} (h : ChOk w c) (hb : Below w.heap.size w w') : ChOk w' c := ⟨h.r, h.bs.below hb, h.by_, h.bm⟩
theorem Chs.below {w w' : World} {ao : Option Addr} {n : Nat} {D : Nat → ChD} (h : Chs w ao n D) (hb : Below w.heap.size w w') : Chs w' ao n D := by
  refine ⟨h.fit, fun hn => ?_, fun i hi => (h.ok i hi).below hb⟩
  obtain ⟨b, off, e, hlt, hc⟩ := h.here hn
  refine ⟨b, off, e, Nat.lt_of_lt_of_le hlt hb.size, fun i hi => ?_⟩
  rw [hb.cell (p := ⟨b, off + i * 2, none⟩) hlt, hb.cell (p := ⟨b, off + i * 2 + 1, none⟩) hlt]
  exact hc i hi

def ChD.cells (c : ChD) : List Value := [.int .i64 c.line, .slice c.ba c.bl c.bc]
def cellsN (D : Nat → ChD) : Nat → List Value
  | 0 => []
  | k + 1 => cellsN D k ++ (D k).cells
theorem cellsN_length (D : Nat → ChD) (k : Nat) : (cellsN D k).length = k * 2 := by
  induction k with
  | zero => rfl
  | succ k ih => simp [cellsN, ih, ChD.cells]; omega
theorem cellsN_get (D : Nat → ChD) {k i : Nat} (h : i < k) : (cellsN D k)[i * 2]? = some (.int .i64 (D i).line) ∧ (cellsN D k)[i * 2 + 1]? = some (.slice (D i).ba (D i).bl (D i).bc) := by
  induction k with
  | zero => omega
  | succ k ih =>
    have hl := cellsN_length D k
    by_cases e : i = k
    · subst e
      simp only [cellsN, ChD.cells]
      rw [List.getElem?_append_right (by omega), List.getElem?_append_right (by omega), hl]
      simp
    · have := ih (by omega)
      simp only [cellsN]
      rw [List.getElem?_append_left (by omega), List.getElem?_append_left (by omega)]
      exact this
theorem cellsN_congr {D E : Nat → ChD} {k : Nat} (h : ∀ i, i < k → D i = E i) : cellsN D k = cellsN E k := by
  induction k with
  | zero => rfl
  | succ k ih => simp only [cellsN]; rw [ih (fun i hi => h i (by omega)), h k (by omega)]

/-- A slice of n changes of the call's own, in blocks from B on, in all depths. -/
structure OwnC (B : Nat) (w : World) (ao : Option Addr) (n cap : Nat) (D : Nat → ChD) : Prop where
  row : w.ownsRow B 65 2 (.slice ao n cap) n (cellsN D n)
  own : ∀ i, i < n → Own .u8 5 B w (D i).ba (D i).bl (D i).bc (D i).bz ∧ Rg (D i).line ∧ Bytes (D i).bz

theorem ownC_nil (B : Nat) (w : World) (D : Nat → ChD) : OwnC B w none 0 0 D := ⟨World.ownsRow_nil _ _ _ _, fun i hi => absurd hi (by omega)⟩
theorem OwnC.fit {B : Nat} {w : World} {ao : Option Addr} {n cap : Nat} {D : Nat → ChD} (h : OwnC B w ao n cap D) : n ≤ cap ∧ cap ≤ 9223372036854775807 := by
  rcases h.row.2 with ⟨hv, hn⟩ | ⟨g, cap', cur, hv, hg, hh, hc, hm, r⟩
  · simp only [Value.slice.injEq] at hv
    obtain ⟨rfl, rfl, rfl⟩ := hv
    exact ⟨Nat.le_refl _, by omega⟩
  · simp only [Value.slice.injEq] at hv
    obtain ⟨rfl, _, rfl⟩ := hv
    exact ⟨hc, by simpa [maxLen] using hm⟩
theorem OwnC.chs {B : Nat} {w : World} {ao : Option Addr} {n cap : Nat} {D : Nat → ChD} (h : OwnC B w ao n cap D) : Chs w ao n D := by
  have hf := h.fit
  refine ⟨by omega, fun hn => ?_, fun i hi => ?_⟩
  · rcases h.row.2 with ⟨hv, h0⟩ | ⟨g, cap', cur, hv, hg, hh, hc, hm, hs, ht⟩
    · omega
    · simp only [Value.slice.injEq] at hv
      obtain ⟨rfl, _, rfl⟩ := hv
      refine ⟨g, 0, rfl, (Array.getElem?_eq_some_iff.1 hh).1, fun i hi => ?_⟩
      obtain ⟨c1, c2⟩ := cellsN_get D hi
      rw [Nat.zero_add, cell_of_row w g _ cur 65 (0, 0) hh, cell_of_row w g _ cur 65 (0, 0) hh]
      rw [← ht, List.getElem?_take, if_pos (by omega)] at c1 c2
      rw [Array.getElem?_toList] at c1 c2
      exact ⟨c1, c2⟩
  · obtain ⟨h1, h2, h3⟩ := h.own i hi
    exact ⟨h2, h1.sl, h3, h1.cap_le.2⟩
/-- The row of changes is in no block of bytes. -/
theorem OwnC.ne {B : Nat} {w : World} {a : Addr} {n cap : Nat} {D : Nat → ChD} (h : OwnC B w (some a) n cap D) {i : Nat} (hi : i < n) {c : Addr} (hc : (D i).ba = some c) : c.block ≠ a.block := by
  intro e
  rcases h.row.2 with ⟨hv, h0⟩ | ⟨g, cap', cur, hv, hg, hh, _⟩
  · simp at hv
  · simp only [Value.slice.injEq, Option.some.injEq] at hv
    obtain ⟨rfl, _⟩ := hv
    rcases (h.own i hi).1.row.2 with ⟨hv, h0⟩ | ⟨g', cap'', cur', hv, hg', hh', _⟩
    · simp only [Value.slice.injEq] at hv
      rw [hc] at hv
      simp at hv
    · simp only [Value.slice.injEq] at hv
      rw [hc] at hv
      simp only [Option.some.injEq] at hv
      obtain ⟨rfl, _⟩ := hv
      simp only at e
      subst e
      rw [hh] at hh'
      simp at hh'
theorem OwnC.below {B : Nat} {w w' : World} {ao : Option Addr} {n cap : Nat} {D : Nat → ChD} (h : OwnC B w ao n cap D) (hb : Below w.heap.size w w') : OwnC B w' ao n cap D := by
  refine ⟨⟨h.row.1, ?_⟩, fun i hi => ⟨(h.own i hi).1.below hb, (h.own i hi).2⟩⟩
  rcases h.row.2 with hn | ⟨g, cap', cur, hv, hg, hh, r⟩
  · exact Or.inl hn
  · refine Or.inr ⟨g, cap', cur, hv, hg, ?_, r⟩
    rw [hb.block g (Array.getElem?_eq_some_iff.1 hh).1]
    exact hh
theorem OwnC.off {F : Nat → Prop} {B : Nat} {w w' : World} {ao : Option Addr} {n cap : Nat} {D : Nat → ChD} (h : OwnC B w ao n cap D) (ho : Off F w w') (hF : ∀ j, F j → j < B) : OwnC B w' ao n cap D := by
  refine ⟨⟨h.row.1, ?_⟩, fun i hi => ⟨(h.own i hi).1.off ho (fun c hc hf => ?_), (h.own i hi).2⟩⟩
  · rcases h.row.2 with hn | ⟨g, cap', cur, hv, hg, hh, r⟩
    · exact Or.inl hn
    · refine Or.inr ⟨g, cap', cur, hv, hg, ?_, r⟩
      rw [ho.block g (Array.getElem?_eq_some_iff.1 hh).1 (fun hf => by have := hF g hf; omega)]
      exact hh
  · have h1 := hF _ hf
    rcases (h.own i hi).1.row.2 with ⟨hv, _⟩ | ⟨g', cap'', cur', hv, hg', hh', _⟩
    · simp only [Value.slice.injEq] at hv
      rw [hc] at hv
      simp at hv
    · simp only [Value.slice.injEq] at hv
      rw [hc] at hv
      simp only [Option.some.injEq] at hv
      obtain ⟨rfl, _⟩ := hv
      simp only at h1
      omega

theorem Try.info65 : (Try.prog.info? 65).map (fun i => (i.zero, i.size, i.bytes)) = some (some (.agg #[.int .i64 0, .slice none 0 0]), 2, 32) := by kernel_rfl
theorem own_sliceC {w : World} {B : Nat} {e : TypeId} {s : Nat} {v : Value} {n : Nat} {xs : List Value} (h : w.ownsRow B e s v n xs) : ∃ bo c, v = .slice bo n c := by
  rcases h.2 with ⟨h0, hn⟩ | ⟨g, cap, cur, rfl, _⟩
  · subst hn
    exact ⟨none, 0, h0⟩
  · exact ⟨_, _, rfl⟩
def put1 (D : Nat → ChD) (k : Nat) (c : ChD) : Nat → ChD := fun i => if i = k then c else D i
theorem put1_here (D : Nat → ChD) (k : Nat) (c : ChD) : put1 D k c k = c := by simp [put1]
theorem put1_cells (D : Nat → ChD) (k : Nat) (c : ChD) : cellsN (put1 D k c) (k + 1) = cellsN D k ++ c.cells := by
  simp only [cellsN, put1_here]
  rw [cellsN_congr (E := D) (fun i hi => by simp [put1]; intro h; omega)]
theorem saysN_congr {D E : Nat → ChD} {k : Nat} (h : ∀ i, i < k → D i = E i) : saysN D k = saysN E k := by
  unfold saysN
  refine List.map_congr_left fun i hi => ?_
  rw [h i (by simpa using hi)]
theorem put1_says (D : Nat → ChD) (k : Nat) (c : ChD) : saysN (put1 D k c) (k + 1) = saysN D k ++ [c.says] := by
  rw [saysN_succ, put1_here, saysN_congr (E := D) (fun i hi => by simp [put1]; intro h; omega)]

/-- 'append(l, c)' for one change c: l of the call's own; c's row of one. -/
theorem append_chg {w : World} {ops : Array Oper} {rest : List Oper} {o : Oper} {a : Act} {Q : Exit → Act → World → Prop} (hgd : o.guard = none) (s x : Operand)
    (ho : o.op = .call { callee := .builtin .append, args := #[s, x], argTypes := #[24, 24] })
    (B : Nat) (ao : Option Addr) (n cap : Nat) (D : Nat → ChD) (hs : a.eval s = .slice ao n cap) (hown : OwnC B w ao n cap D)
    (ad : Addr) (m : Nat) (C : ChD) (hx : a.eval x = .slice (some ad) 1 m) (hc0 : w.cell? ad = some (.int .i64 C.line)) (hc1 : w.cell? (ad.add 1) = some (.slice C.ba C.bl C.bc)) (hC : Own .u8 5 B w C.ba C.bl C.bc C.bz ∧ Rg C.line ∧ Bytes C.bz)
    (hb : (n + 1) * 32 ≤ 140737488355328) (hB : B ≤ w.heap.size)
    (h : ∀ bo c' w', OwnC B w' bo (n + 1) c' (put1 D n C) → w.grownBy w' (Value.slice ao n cap).ownBlock → wpList Try.prog ops Q rest (a.put o.dst (.slice bo (n + 1) c')) w') : wpList Try.prog ops Q (o :: rest) a w := by
  obtain ⟨i0, hi, hz0, hz1, hz2⟩ := info_parts Try.info65
  refine wpList_append_own _ hgd s x 24 ho B 65 i0 (.agg #[.int .i64 0, .slice none 0 0]) 2 32 Try.underlying24 hi hz0 hz1 hz2 rfl (by decide) _ n _ hs hown.row ad 1 m C.cells hx rfl ?_ ?_ (by unfold maxLen; omega) (by omega) hB ?_
  · intro j u hu
    match j, hu with
    | 0, hu => simp [ChD.cells] at hu; subst hu; simpa [Addr.add] using hc0
    | 1, hu => simp [ChD.cells] at hu; subst hu; exact hc1
  · intro u hu
    simp [ChD.cells] at hu
    rcases hu with rfl | rfl <;> rfl
  · intro v' w' hown' hgrow hnil
    obtain ⟨bo, c', rfl⟩ := own_sliceC hown'
    refine h bo c' w' ⟨by rw [put1_cells]; exact hown', fun i hi => ?_⟩ hgrow
    have key : ∀ (k : Nat) (b : Option Addr) (l c : Nat) (zs : List Int), Own .u8 5 B w b l c zs → Own .u8 5 B w' b l c zs := fun k b l c zs hk => by
      refine hk.off (F := fun j => some j = (Value.slice ao n cap).ownBlock) (Off.of_grown hgrow (fun j hj => Or.inl hj.symm)) (fun q hq hf => ?_)
      cases ao with
      | none => simp [Value.ownBlock] at hf
      | some a0 =>
        simp only [Value.ownBlock, Option.some.injEq] at hf
        rcases hown.row.2 with ⟨hv, _⟩ | ⟨g, cap', cur, hv, hg, hh, _⟩
        · simp at hv
        · simp only [Value.slice.injEq, Option.some.injEq] at hv
          obtain ⟨rfl, _⟩ := hv
          rcases hk.row.2 with ⟨hv, h0⟩ | ⟨g', cap'', cur', hv, hg', hh', _⟩
          · simp only [Value.slice.injEq] at hv
            rw [hq] at hv
            simp at hv
          · simp only [Value.slice.injEq] at hv
            rw [hq] at hv
            simp only [Option.some.injEq] at hv
            obtain ⟨rfl, _⟩ := hv
            simp only at hf
            subst hf
            rw [hh] at hh'
            simp at hh'
    by_cases e : i = n
    · subst e
      rw [put1_here]
      exact ⟨key 0 _ _ _ _ hC.1, hC.2⟩
    · have e1 : put1 D n C i = D i := by simp [put1, e]
      rw [e1]
      have := hown.own i (by omega)
      exact ⟨key 0 _ _ _ _ this.1, this.2⟩
end Go.Proofs.Ytgiippbjieecmaa
/- Which lines are unlike; what changes make: plain facts. -/
namespace Go.Proofs.Ytgiippbjieecmaa
set_option maxRecDepth 100000
open Go.RowKit
set_option linter.unusedVariables false

/-- The changes of the first k lines. -/
def diffN (a b : List Int) : Nat → List Chg
  | 0 => []
  | k + 1 => diffN a b k ++ (if eqB (lin a k) (lin b k) = true then [] else [((k : Int), lin b k)])
theorem diffN_same {a b : List Int} {k : Nat} (h : eqB (lin a k) (lin b k) = true) : diffN a b (k + 1) = diffN a b k := by simp [diffN, h]
theorem diffN_else {a b : List Int} {k : Nat} (h : eqB (lin a k) (lin b k) = false) : diffN a b (k + 1) = diffN a b k ++ [((k : Int), lin b k)] := by simp [diffN, h]
theorem diffN_length (a b : List Int) (k : Nat) : (diffN a b k).length ≤ k := by
  induction k with
  | zero => simp [diffN]
  | succ k ih =>
    simp only [diffN, List.length_append]
    split <;> simp <;> omega
theorem part_lin {w : World} {b off n cap i : Nat} {zs : List Int} (h : Sl .u8 w (some ⟨b, off, none⟩) n cap zs) (hi : 64 * i + 64 ≤ n) : Sl .u8 w (some ⟨b, off + 64 * i, none⟩) 64 (cap - 64 * i) (lin zs i) := by
  have hr := h.room
  have := h.sliced (64 * i) (64 * i + 64) (by omega) hi
  rw [if_neg (by omega), show 64 * i + 64 - 64 * i = 64 by omega] at this
  simpa [Addr.add_lit, lin] using this
end Go.Proofs.Ytgiippbjieecmaa
/- lines.Apply by its contract. -/
namespace Go.Proofs.Ytgiippbjieecmaa
set_option maxRecDepth 100000
open Go.RowKit
set_option linter.unusedVariables false

/-- May they all be laid over N lines? -/
def okA (N : Nat) (cs : List Chg) : Bool := cs.all fun c => fitsB N c.1 c.2.length
/-- One is laid; all are. -/
def lay1 (a : List Int) (c : Chg) : List Int := splice a (64 * c.1.toNat) c.2
def layN (a : List Int) (cs : List Chg) : List Int := cs.foldl lay1 a
theorem okA_snoc (N : Nat) (cs : List Chg) (c : Chg) : okA N (cs ++ [c]) = (okA N cs && fitsB N c.1 c.2.length) := by simp [okA]
theorem okA_take {N : Nat} {cs : List Chg} (h : okA N cs = true) {c : Chg} (hc : c ∈ cs) : fitsB N c.1 c.2.length = true := by
  unfold okA at h
  rw [List.all_eq_true] at h
  exact h c hc
theorem layN_snoc (a : List Int) (cs : List Chg) (c : Chg) : layN a (cs ++ [c]) = lay1 (layN a cs) c := by simp [layN]
theorem says_mem (D : Nat → ChD) {k i : Nat} (h : i < k) : (D i).says ∈ saysN D k := List.mem_of_getElem? (saysN_get D h)
theorem okA_at {N m i : Nat} {D : Nat → ChD} (h : okA N (saysN D m) = true) (hi : i < m) : fitsB N (D i).line (D i).bz.length = true := okA_take h (says_mem D hi)
theorem okA_false {N m i : Nat} {D : Nat → ChD} (hi : i < m) (h : fitsB N (D i).line (D i).bz.length = false) : okA N (saysN D m) = false := by
  cases e : okA N (saysN D m) with
  | false => rfl
  | true => rw [okA_at e hi] at h; cases h

theorem apply_part (ao : Option Addr) (n cap : Nat) (lo : Option Addr) (m lc : Nat) (w : World) (hn : n ≤ 9223372036854775807) (h : ¬ n % 64 = 0) :
    Calls Try.prog 28 #[.slice ao n cap, .slice lo m lc] w fun e w' => e = .returned (.tuple #[.slice none 0 0, .int .i64 1]) ∧ w = w' := by
  have h2 : imgB n = false := by simp [imgB, h]
  go_enter Try.func28, Try.ntmps28
  go_wp2_with (go_at_call 55; with_reducible refine (isImage_any _ _ _ _ hn).mono ?_; rintro e w' ⟨rfl, rfl⟩; rw [h2])
  go_ret2
  exact ⟨rfl, rfl⟩

/-- A change of a slice, in a later world. -/
theorem Chs.later {w wr : World} {b off n : Nat} {D : Nat → ChD} (h : Chs w (some ⟨b, off, none⟩) n D) (hb : Below w.heap.size w wr) {k : Nat} (hk : k < n) :
    wr.cell? ⟨b, off + k * 2, none⟩ = some (.int .i64 (D k).line) ∧ wr.cell? ⟨b, off + k * 2 + 1, none⟩ = some (.slice (D k).ba (D k).bl (D k).bc) ∧ ChOk wr (D k) := by
  have h' := h.below hb
  obtain ⟨b', o', e, _, hc⟩ := h'.here (by omega)
  simp only [Option.some.injEq, Addr.mk.injEq, and_true] at e
  obtain ⟨rfl, rfl⟩ := e
  exact ⟨(hc k hk).1, (hc k hk).2, h'.ok k hk⟩

set_option maxRecDepth 100000 in
set_option maxHeartbeats 1000000 in
theorem apply_any (ao : Option Addr) (n cap : Nat) (xs : List Int) (lo : Option Addr) (m lc : Nat) (D : Nat → ChD) (w : World) (hx : Sl .u8 w ao n cap xs) (h : Chs w lo m D) (h64 : n % 64 = 0) (hn : n ≤ 140737488355328) :
    Calls Try.prog 28 #[.slice ao n cap, .slice lo m lc] w fun e w' => Below w.heap.size w w' ∧
      (okA (n / 64) (saysN D m) = false → e = .returned (.tuple #[.slice none 0 0, .int .i64 1])) ∧
      (okA (n / 64) (saysN D m) = true → ∃ g, e = .returned (.tuple #[.slice (some ⟨g, 0, none⟩) n n, .int .i64 0]) ∧ Own .u8 5 w.heap.size w' (some ⟨g, 0, none⟩) n n (layN xs (saysN D m))) := by
  have h9 : n ≤ 9223372036854775807 := by omega
  have h2 : imgB n = true := by simp [imgB, h64]
  have hm9 := h.fit
  have lx := hx.len
  obtain ⟨N, hN⟩ : ∃ N, n / 64 = N := ⟨_, rfl⟩
  rw [hN]
  go_enter Try.func28, Try.ntmps28
  go_wp2_with (first
    | (go_at_call 55; with_reducible refine (isImage_any _ _ _ _ h9).mono ?_; rintro e w' ⟨rfl, rfl⟩; rw [h2]))
  go_loopw [16] (fun t wr => ∃ k : Nat, k ≤ m ∧ t = .int .i64 k ∧ Hid (okA N (saysN D k) = true) ∧ Below w.heap.size w wr) (fun t _ => m - (intOf t).toNat)
  case atStart => exact ⟨0, Nat.zero_le _, rfl, hid rfl, Below.refl _ _⟩
  case round =>
    obtain ⟨k, hk, rfl, HK, hb⟩ := hrel
    by_cases hlt : k < m
    · obtain ⟨b1, o1, rfl, _, _⟩ := h.here (by omega)
      obtain ⟨c1, c2, ok⟩ := h.later hb hlt
      have hki : (k : Int) < (m : Int) := by omega
      have hfl := ok.bs.len
      have HT : Hid (fitsB N (D k).line (D k).bl = true → okA N (saysN D (k + 1)) = true) := fun e => by rw [saysN_succ, okA_snoc, HK.out, ChD.says, hfl, e]; rfl
      have HF : Hid (fitsB N (D k).line (D k).bl = false → okA N (saysN D m) = false) := fun e => okA_false hlt (by rw [hfl]; exact e)
      obtain ⟨A, hA⟩ : ∃ A, A = D k := ⟨_, rfl⟩
      rw [← hA] at c1 c2 HT HF
      clear ok hfl hA h hx
      have hbA : Below w.heap.size w (wr.alloc (.cells #[.int .i64 A.line, .slice A.ba A.bl A.bc] 65)).drew := (hb.alloc hb.size _).drew
      by_cases hf : fitsB N A.line A.bl = true
      · go_wp2
        go_region_with (first
          | (go_at_call 57; with_reducible refine (count_any _ _ _ _ h9).mono ?_; rintro e w' ⟨rfl, rfl⟩; rw [hN])
          | (go_at_call 56; with_reducible refine (lfits_any N A.line A.ba A.bl A.bc _).mono ?_; rintro e w' ⟨rfl, hb2⟩; rw [hf]; have hb3 := next hbA hb2))
        all_goals
          go_wp2
          go_roundw
          case rel => exact ⟨k + 1, by omega, by go_num, hid (HT.out hf), hb3⟩
          case measure => simp [intOf]; omega
      · have hf' : fitsB N A.line A.bl = false := by simpa using hf
        go_wp2
        go_region_with (first
          | (go_at_call 57; with_reducible refine (count_any _ _ _ _ h9).mono ?_; rintro e w' ⟨rfl, rfl⟩; rw [hN])
          | (go_at_call 56; with_reducible refine (lfits_any N A.line A.ba A.bl A.bc _).mono ?_; rintro e w' ⟨rfl, hb2⟩; rw [hf']; have hb3 := next hbA hb2))
        all_goals
          go_wp2
          go_ret2
          exact ⟨hb3, fun _ => rfl, fun e => by rw [HF.out hf'] at e; cases e⟩
    · obtain rfl : k = m := by omega
      have HA : Hid (okA N (saysN D k) = true) := HK
      have sx := hx.below hb
      go_wp2_with (first
        | (go_at_call 58; with_reducible refine (copied_any _ _ _ xs _ sx hn).mono ?_; rintro e w1 ⟨rfl, hcp, hb1⟩))
      obtain ⟨g, hg⟩ : ∃ g, g = wr.heap.size := ⟨_, rfl⟩
      have hgw : w.heap.size ≤ g := by rw [hg]; exact hb.size
      have hb1' := next hb hb1
      have hown0 : Own .u8 5 w.heap.size w1 (some ⟨g, 0, none⟩) n n xs := by rw [hg]; exact hcp.mono hb.size
      rw [← hg]
      clear hg hcp hb1 hb HK sx hx
      go_loopw [30] (fun t wr => ∃ j : Nat, j ≤ k ∧ t = .int .i64 j ∧ Own .u8 5 w.heap.size wr (some ⟨g, 0, none⟩) n n (layN xs (saysN D j)) ∧ Below w.heap.size w wr) (fun t _ => k - (intOf t).toNat)
      case atStart => exact ⟨0, Nat.zero_le _, rfl, hown0, hb1'⟩
      case round =>
        clear hown0 hb1'
        obtain ⟨j, hj, rfl, hown, hb⟩ := hrel
        by_cases hlj : j < k
        · obtain ⟨b1, o1, rfl, _, _⟩ := h.here (by omega)
          obtain ⟨c1, c2, ok⟩ := h.later hb hlj
          have hji : (j : Int) < (k : Int) := by omega
          have hf := fitsB_t (okA_at HA.out hlj)
          have hfl := ok.bs.len
          have HS : Hid (layN xs (saysN D (j + 1)) = lay1 (layN xs (saysN D j)) (D j).says) := hid (by rw [saysN_succ, layN_snoc])
          obtain ⟨A, hA⟩ : ∃ A, A = D j := ⟨_, rfl⟩
          rw [← hA] at c1 c2 HS hf hfl ok
          clear hA h
          obtain ⟨line, ba, bl, bc, bz⟩ := A
          simp only at c1 c2 hf hfl
          obtain ⟨q, rfl⟩ : ∃ q : Nat, line = q := ⟨line.toNat, by omega⟩
          obtain rfl : bl = 64 := by omega
          have hqn : 64 * q + 64 ≤ n := by omega
          have hbA : Below wr.heap.size wr (wr.alloc (.cells #[.int .i64 q, .slice ba 64 bc] 65)).drew := ((Below.refl _ _).alloc (Nat.le_refl _) _).drew
          have hownA := hown.below hbA
          have hslA : Sl .u8 _ ba 64 bc bz := ok.bs.below hbA
          have hszA := hbA.size
          have HB := hid (next hb hbA)
          clear ok
          have cL := line_any g 0 n n q (wr.alloc (.cells #[.int .i64 q, .slice ba 64 bc] 65)).drew hqn (Nat.le_refl _) h9
          rw [Nat.zero_add] at cL
          have nm : (Try.f59.name == "runtime.NumGoroutine") = false := by kernel_rfl
          have bd : Try.f59.body.isSome = true := by kernel_rfl
          have HL : Hid (splice (layN xs (saysN D j)) (64 * q) bz = layN xs (saysN D (j + 1))) := hid (by rw [HS.out]; rfl)
          generalize layN xs (saysN D j) = Z at *
          go_wp2
          go_region_law (first
            | (refine step_call2 rfl 59 (.tmp 34) (.tmp 36) #[27, 3] rfl Try.f59 Try.func59 nm bd (.slice (some ⟨g, 0, none⟩) n n) (.int .i64 q) rfl rfl (.slice (some ⟨g, 64 * q, none⟩) 64 (n - 64 * q)) (fun w' => (wr.alloc (.cells #[.int .i64 q, .slice ba 64 bc] 65)).drew = w') cL ?_; intro w' hw'; subst hw')
            | (refine step_copy_sl rfl (.tmp 37) (.tmp 39) rfl w.heap.size g (64 * q) 64 (n - 64 * q) n n 64 bc ba rfl rfl Z bz hownA hslA (by omega) (by omega) hqn ?_; intro w4 ho4 hg4 hs4))
          all_goals
            go_wp2
            go_roundw
            case rel => exact ⟨j + 1, by omega, by go_num, by rw [← HL.out]; exact ho4, HB.out.grown hg4 HB.out.size (by intro t ht; cases ht; exact hgw)⟩
            case measure => simp [intOf]; omega
        · obtain rfl : j = k := by omega
          go_wp2
          go_ret2
          exact ⟨hb, (fun e => by rw [HA.out] at e; cases e), fun _ => ⟨g, rfl, hown⟩⟩
end Go.Proofs.Ytgiippbjieecmaa
/- lines.Right by its contract. -/
namespace Go.Proofs.Ytgiippbjieecmaa
set_option maxRecDepth 100000
open Go.RowKit
set_option linter.unusedVariables false

def aheadV (D : Nat → ChD) : Nat → Int
  | 0 => -1
  | k + 1 => (D k).line
/-- Is change k right, behind the ones ahead of it? -/
def rtD (n : Int) (D : Nat → ChD) (k : Nat) : Bool := fitsB n (D k).line (D k).bz.length && decide (aheadV D k < (D k).line)
def rightB (n : Int) (D : Nat → ChD) (m : Nat) : Bool := (List.range m).all (rtD n D)
theorem rightB_succ (n : Int) (D : Nat → ChD) (k : Nat) : rightB n D (k + 1) = (rightB n D k && rtD n D k) := by simp [rightB, List.range_succ]
theorem rightB_false {n : Int} {D : Nat → ChD} {k m : Nat} (hk : k < m) (h : rtD n D k = false) : rightB n D m = false := by
  cases e : rightB n D m with
  | false => rfl
  | true =>
    unfold rightB at e
    rw [List.all_eq_true] at e
    rw [e k (by simpa using hk)] at h
    cases h

set_option maxRecDepth 100000 in
theorem right_any (n : Int) (lo : Option Addr) (m lc : Nat) (D : Nat → ChD) (w : World) (h : Chs w lo m D) :
    Calls Try.prog 32 #[.int .i64 n, .slice lo m lc] w fun e w' => e = .returned (.bool (rightB n D m)) ∧ Below w.heap.size w w' := by
  have hm9 := h.fit
  go_enter Try.func32, Try.ntmps32
  go_wp2
  go_loopw [5, 10] (fun q t wr => ∃ k : Nat, k ≤ m ∧ t = .int .i64 k ∧ q = .int .i64 (aheadV D k) ∧ Hid (rightB n D k = true) ∧ Below w.heap.size w wr) (fun _ t _ => m - (intOf t).toNat)
  case atStart => exact ⟨0, Nat.zero_le _, rfl, rfl, hid rfl, Below.refl _ _⟩
  case round =>
    obtain ⟨k, hk, rfl, rfl, HK, hb⟩ := hrel
    by_cases hlt : k < m
    · obtain ⟨b1, o1, rfl, _, _⟩ := h.here (by omega)
      obtain ⟨c1, c2, ok⟩ := h.later hb hlt
      have hki : (k : Int) < (m : Int) := by omega
      have hfl := ok.bs.len
      have HT : Hid (fitsB n (D k).line (D k).bl = true → aheadV D k < (D k).line → rightB n D (k + 1) = true) := fun e e2 => by
        rw [rightB_succ, HK.out, rtD, hfl, e]; simpa using e2
      have HF : Hid (fitsB n (D k).line (D k).bl = false → rightB n D m = false) := fun e => rightB_false hlt (by rw [rtD, hfl, e]; rfl)
      have HG : Hid (¬ aheadV D k < (D k).line → rightB n D m = false) := fun e => rightB_false hlt (by rw [rtD]; simp [e])
      have HV : Hid (aheadV D (k + 1) = (D k).line) := hid rfl
      generalize aheadV D k = V at *
      obtain ⟨A, hA⟩ : ∃ A, A = D k := ⟨_, rfl⟩
      rw [← hA] at c1 c2 HT HF HG HV
      clear ok hfl hA h
      have hbA : Below w.heap.size w (wr.alloc (.cells #[.int .i64 A.line, .slice A.ba A.bl A.bc] 65)) := hb.alloc hb.size _
      have cA : (wr.alloc (.cells #[.int .i64 A.line, .slice A.ba A.bl A.bc] 65)).cell? ⟨wr.heap.size, 0, none⟩ = some (.int .i64 A.line) := by simp
      have lA : wr.heap.size < (wr.alloc (.cells #[.int .i64 A.line, .slice A.ba A.bl A.bc] 65)).heap.size := by simp
      by_cases hf : fitsB n A.line A.bl = true
      · by_cases hv : V < A.line
        · have hv' : ¬ A.line ≤ V := by omega
          go_wp2_with (first
            | (go_at_call 56; with_reducible refine (lfits_any n A.line A.ba A.bl A.bc _).mono ?_; rintro e w' ⟨rfl, hb2⟩; rw [hf]; have hb3 := next hbA hb2; have c3 := (hb2.cell (p := ⟨wr.heap.size, 0, none⟩) lA).trans cA))
          go_roundw
          case rel => exact ⟨k + 1, by omega, by go_num, by rw [HV.out], hid (HT.out hf hv), hb3⟩
          case measure => simp [intOf]; omega
        · have hv' : A.line ≤ V := by omega
          go_wp2_with (first
            | (go_at_call 56; with_reducible refine (lfits_any n A.line A.ba A.bl A.bc _).mono ?_; rintro e w' ⟨rfl, hb2⟩; rw [hf]; have hb3 := next hbA hb2; have c3 := (hb2.cell (p := ⟨wr.heap.size, 0, none⟩) lA).trans cA))
          go_ret
          exact ⟨ret_bool (HG.out hv).symm, hb3⟩
      · have hf' : fitsB n A.line A.bl = false := by simpa using hf
        go_wp2_with (first
          | (go_at_call 56; with_reducible refine (lfits_any n A.line A.ba A.bl A.bc _).mono ?_; rintro e w' ⟨rfl, hb2⟩; rw [hf']; have hb3 := next hbA hb2))
        go_ret
        exact ⟨ret_bool (HF.out hf').symm, hb3⟩
    · obtain rfl : k = m := by omega
      go_wp2
      go_ret
      exact ⟨ret_bool HK.out.symm, hb⟩
end Go.Proofs.Ytgiippbjieecmaa
/- joistlaw04.Few by its contract. -/
namespace Go.Proofs.Ytgiippbjieecmaa
set_option maxRecDepth 100000
open Go.RowKit
set_option linter.unusedVariables false

def fewB (D : Nat → ChD) (m : Nat) : Bool := (List.range m).all (fun i => decide ((D i).bl ≤ 1024)) && decide (m ≤ 300)
theorem few_any (lo : Option Addr) (m lc : Nat) (D : Nat → ChD) (w : World) (h : Chs w lo m D) :
    Calls Try.prog 9 #[.slice lo m lc] w fun e w' => e = .returned (.bool (fewB D m)) ∧ w = w' := by
  have hm9 := h.fit
  go_enter Try.func9, Try.ntmps9
  go_wp2
  go_loop [3] (fun t => ∃ k : Nat, k ≤ m ∧ t = .int .i64 k ∧ Hid ((List.range k).all (fun i => decide ((D i).bl ≤ 1024)) = true)) (fun t => m - (intOf t).toNat)
  case atStart => exact ⟨0, Nat.zero_le _, rfl, hid rfl⟩
  case round =>
    obtain ⟨k, hk, rfl, HK⟩ := hrel
    by_cases hlt : k < m
    · obtain ⟨b1, o1, rfl, _, hc⟩ := h.here (by omega)
      obtain ⟨c1, c2⟩ := hc k hlt
      have hki : (k : Int) < (m : Int) := by omega
      have hbm := (h.ok k hlt).bm
      have hbr := (h.ok k hlt).bs.room
      have HT : Hid ((D k).bl ≤ 1024 → (List.range (k + 1)).all (fun i => decide ((D i).bl ≤ 1024)) = true) := fun e => by rw [List.range_succ, List.all_append, HK.out]; simpa using e
      have HF : Hid (¬ (D k).bl ≤ 1024 → fewB D m = false) := fun e => by
        cases q : fewB D m with
        | false => rfl
        | true =>
          unfold fewB at q
          simp only [Bool.and_eq_true, List.all_eq_true, List.mem_range, decide_eq_true_eq] at q
          exact absurd (q.1 k hlt) e
      generalize (D k).line = X at *
      generalize (D k).ba = X2 at *
      generalize (D k).bl = L at *
      generalize (D k).bc = C at *
      clear hc h
      by_cases hl : L ≤ 1024
      · have hl' : ¬ ((1024 : Int) < L) := by omega
        go_wp2
        go_round
        case rel => exact ⟨k + 1, by omega, by go_num, hid (HT.out hl)⟩
        case measure => simp [intOf]; omega
      · have hl' : (1024 : Int) < L := by omega
        go_wp2
        go_ret
        exact ⟨ret_bool (HF.out hl).symm, rfl⟩
    · obtain rfl : k = m := by omega
      go_wp2
      go_ret
      refine ⟨ret_bool ?_, rfl⟩
      unfold fewB
      rw [HK.out, Bool.true_and, Bool.eq_iff_iff, decide_eq_true_eq, decide_eq_true_eq]
      omega
end Go.Proofs.Ytgiippbjieecmaa
/- A slice of changes that came in, opened: each one's line and bytes can be read. -/
namespace Go.Proofs.Ytgiippbjieecmaa
set_option maxRecDepth 100000
open Go.RowKit Go.ChangeShapes Go.WideShapes Go.ChangeAt Go.Deep
set_option linter.unusedVariables false

section
variable {H : Type} {enc : TypeId × Value → H} {W : World} {x : DataW H × List MemPlace} {fuel : Nat} {c : Value}
theorem open_bytes_in (h : DataW.trod enc Try.prog W 0 (fun _ => true) true fuel 27 [c] = some x) : ∃ a len cap zs, c = .slice a len cap ∧ Sl .u8 W a len cap zs ∧ Bytes zs ∧ cap ≤ 9223372036854775807 := by
  rcases open_ints Try.underlying27 Try.underlying5 (by kernel_rfl) h with ⟨hcs, _⟩ | ⟨y, l, cc, zs, hcs, _, hl, hm, hz, _, hcell, hwz⟩
  · simp only [List.cons.injEq, and_true] at hcs
    exact ⟨none, 0, 0, [], hcs, ⟨rfl, Nat.le_refl _, fun _ => rfl, fun h => absurd h (by omega)⟩, (by intro z hz; cases hz), by omega⟩
  · simp only [List.cons.injEq, and_true] at hcs
    simp only [if_true] at hz
    refine ⟨some y, l, cc, zs.take l, hcs, ⟨by simp; omega, hl, (by intro h; cases h), fun hn => ?_⟩, fun z hz' => bytes_wf hwz z (List.mem_of_mem_take hz'), by simpa [maxLen] using hm⟩
    obtain ⟨b, off, spot⟩ := y
    have hc0 := hcell 0 (by omega)
    have hspot : spot = none := by simpa [Addr.add] using World.cell?_spot hc0
    subst hspot
    refine ⟨b, off, rfl, ?_, fun i hi => ?_⟩
    · have := World.block_lt_of_cell? W _ hc0
      simpa [Addr.add] using this
    · have := hcell i (by omega)
      rw [Addr.add_lit] at this
      rw [this]
      simp [List.getD, hi]
theorem open_chg {cs : List Value} (h : DataW.trod enc Try.prog W 0 (fun _ => true) true fuel 65 cs = some x) : ∃ A : ChD, cs = [.int .i64 A.line, .slice A.ba A.bl A.bc] ∧ ChOk W A := by
  obtain ⟨xs, n, _, _, hl, hlen, hf⟩ := DataW.trod_struct Try.underlying65 h
  have e5 : Try.prog.cellsOf 65 = 2 := by kernel_rfl
  have e3 : Try.prog.cellsOf 3 = 1 := by kernel_rfl
  have e22 : Try.prog.cellsOf 27 = 1 := by kernel_rfl
  rw [e5] at hl
  match cs, hl, xs, hlen with
  | [c0, c1], _, [y0, y1], _ =>
    have h0 : DataW.trod enc Try.prog W 0 (fun _ => true) true n 3 (([c0, c1].drop 0).take (Try.prog.cellsOf 3)) = some y0 := hf 0 _ rfl
    have h1 : DataW.trod enc Try.prog W 0 (fun _ => true) true n 27 (([c0, c1].drop 1).take (Try.prog.cellsOf 27)) = some y1 := hf 1 _ rfl
    rw [e3] at h0
    rw [e22] at h1
    obtain ⟨a0, f0, _, w0⟩ := DataW.trod_int Try.underlying3 h0
    obtain ⟨ba, bl, bc, bz, f3, g3, g4, g5⟩ := open_bytes_in (c := c1) h1
    simp at f0
    subst f0 f3
    exact ⟨⟨a0, ba, bl, bc, bz⟩, rfl, ⟨bounds_i64 w0, g3, g4, g5⟩⟩
theorem open_chgs {a : Option Addr} {len cap : Nat} {d : DataW H} {p : List MemPlace} (h : DataW.Trod enc Try.prog W 0 (fun _ => true) true 24 (.slice a len cap) d p) : (a = none → cap = 0 ∧ len = 0) ∧ ∃ D, Chs W a len D := by
  obtain ⟨fuel, hf⟩ := h
  have e5 : Try.prog.cellsOf 65 = 2 := by kernel_rfl
  rcases open_slice Try.underlying24 hf with ⟨hcs, _⟩ | ⟨y, l, cc, m, n, D, Pl, hcs, _, hl, hm, hmm, _, hel⟩
  · simp [Value.cells] at hcs
    obtain ⟨rfl, rfl, rfl⟩ := hcs
    exact ⟨fun _ => ⟨rfl, rfl⟩, default, by omega, fun h => absurd h (by omega), fun i hi => absurd hi (by omega)⟩
  · simp [Value.cells] at hcs
    obtain ⟨rfl, rfl, rfl⟩ := hcs
    simp only [if_true] at hmm
    have hm' : cap ≤ 9223372036854775807 := by simpa [maxLen] using hm
    refine ⟨(by intro h; cases h), ?_⟩
    obtain ⟨b, off, spot⟩ := y
    by_cases hpos : 0 < len
    · have hsp : spot = none := by
        obtain ⟨cs', h1, _⟩ := hel 0 (by omega)
        obtain ⟨_, h2, h3⟩ := World.cells?_some h1
        rw [e5] at h2 h3
        have h4 := h3 0 (by omega)
        rw [List.getElem?_eq_getElem (by omega)] at h4
        simpa [Addr.add] using World.cell?_spot h4
      subst hsp
      have hall : ∀ i, i < len → ∃ A, (W.cell? ⟨b, off + i * 2, none⟩ = some (.int .i64 A.line) ∧ W.cell? ⟨b, off + i * 2 + 1, none⟩ = some (.slice A.ba A.bl A.bc)) ∧ ChOk W A := by
        intro i hi
        obtain ⟨cs', h1, h2⟩ := hel i (by omega)
        obtain ⟨A, rfl, hok⟩ := open_chg h2
        obtain ⟨_, _, h3⟩ := World.cells?_some h1
        rw [e5] at h3
        have cell : ∀ j v, j < 2 → [Value.int .i64 A.line, .slice A.ba A.bl A.bc][j]? = some v → W.cell? ⟨b, off + i * 2 + j, none⟩ = some v := by
          intro j v hj hv
          have h4 := h3 j hj
          rw [hv, Addr.add_lit, Addr.add_lit] at h4
          exact h4
        exact ⟨A, ⟨cell 0 _ (by omega) rfl, cell 1 _ (by omega) rfl⟩, hok⟩
      obtain ⟨DD, hDD⟩ := choose_lt hall
      have hb : b < W.heap.size := by
        have := World.block_lt_of_cell? W _ (hDD 0 hpos).1.1
        exact this
      exact ⟨DD, by omega, fun _ => ⟨b, off, rfl, hb, fun i hi => (hDD i hi).1⟩, fun i hi => (hDD i hi).2⟩
    · exact ⟨default, by omega, fun h => absurd h hpos, fun i hi => absurd hi (by omega)⟩
end
end Go.Proofs.Ytgiippbjieecmaa
