/- Off · ClsM · PagM · RdR · RunM · PlcM · PlcN · HpM · PagN: these texts, one behind another. -/
import Derived.Test.YtpbljjbhfhfmgaaGreatDoorMxHandM
import Derived.Maps.RangeWalk
/- What a call leaves as it was: every block outside a set of blocks. -/
namespace Go.Proofs.YtpbljjbhfhfmgaaGreatDoor
set_option maxRecDepth 100000
open Go.RowKit

/-- Nothing outside F has turned. -/
structure Off (F : Nat → Prop) (w w' : World) : Prop where
  os : w'.os = w.os
  tape : w'.tape = w.tape
  output : w'.output = w.output
  size : w.heap.size ≤ w'.heap.size
  block : ∀ k, k < w.heap.size → ¬ F k → w'.heap[k]? = w.heap[k]?

theorem Off.refl (F : Nat → Prop) (w : World) : Off F w w := ⟨rfl, rfl, rfl, Nat.le_refl _, fun _ _ _ => rfl⟩
theorem Off.trans {F F' : Nat → Prop} {a b c : World} (h : Off F a b) (k : Off F' b c) (hF : ∀ j, F' j → F j ∨ a.heap.size ≤ j) : Off F a c :=
  ⟨k.os.trans h.os, k.tape.trans h.tape, k.output.trans h.output, Nat.le_trans h.size k.size, fun i hi hn =>
    (k.block i (Nat.lt_of_lt_of_le hi h.size) (fun hf => by rcases hF i hf with h1 | h1; exact hn h1; omega)).trans (h.block i hi hn)⟩
theorem Off.of_below {F : Nat → Prop} {w w' : World} (h : Below w.heap.size w w') : Off F w w' := ⟨h.os, h.tape, h.output, h.size, fun k hk _ => h.block k hk⟩
theorem Off.of_grown {F : Nat → Prop} {w w' : World} {row : Option Nat} (h : w.grownBy w' row) (hr : ∀ j, row = some j → F j ∨ w.heap.size ≤ j) : Off F w w' :=
  ⟨h.os, h.tape, h.output, h.size, fun k hk hn => h.block k hk (fun e => by rcases hr k e.symm with h1 | h1; exact hn h1; omega)⟩
theorem Off.below {F : Nat → Prop} {w w' : World} {B : Nat} (h : Off F w w') (hF : ∀ j, F j → B ≤ j) (hB : B ≤ w.heap.size) : Below B w w' :=
  ⟨h.os, h.tape, h.output, h.size, fun k hk => h.block k (by omega) (fun hf => by have := hF k hf; omega)⟩
theorem Off.mono {F F' : Nat → Prop} {w w' : World} (h : Off F w w') (hF : ∀ j, F j → j < w.heap.size → F' j) : Off F' w w' :=
  ⟨h.os, h.tape, h.output, h.size, fun k hk hn => h.block k hk (fun hf => hn (hF k hf hk))⟩
theorem Off.drewN {F : Nat → Prop} {a w : World} (h : Off F a w) (n : Nat) : Off F a (w.drewN n) := h.trans (F' := fun _ => False) ⟨rfl, rfl, rfl, Nat.le_refl _, fun _ _ _ => rfl⟩ (fun _ h => h.elim)

theorem Off.setCell {F : Nat → Prop} {w wr : World} (h : Off F w wr) (a : Addr) (v : Value) (hF : F a.block) : Off F w (wr.setCell a v) :=
  h.trans (F' := fun j => j = a.block) ⟨rfl, rfl, rfl, by simp [World.setCell], fun k _ hn => heap_setCell_other wr a k v hn⟩ (fun j hj => Or.inl (by rw [hj]; exact hF))

theorem Sl.off {k : IntKind} {F : Nat → Prop} {w w' : World} {ao : Option Addr} {n cap : Nat} {zs : List Int} (h : Sl k w ao n cap zs) (ho : Off F w w') (hno : 0 < n → ∀ c, ao = some c → ¬ F c.block) : Sl k w' ao n cap zs := by
  refine ⟨h.len, h.room, h.void, fun hn => ?_⟩
  obtain ⟨b, off, e, hlt, hc⟩ := h.here hn
  refine ⟨b, off, e, Nat.lt_of_lt_of_le hlt ho.size, fun i hi => ?_⟩
  rw [World.cell?_of_block (a := ⟨b, off + i, none⟩) (ho.block b hlt (hno hn _ e))]
  exact hc i hi
theorem Own.off {k : IntKind} {e : TypeId} {F : Nat → Prop} {B : Nat} {w w' : World} {ao : Option Addr} {n cap : Nat} {zs : List Int} (h : Own k e B w ao n cap zs) (ho : Off F w w') (hno : ∀ c, ao = some c → ¬ F c.block) : Own k e B w' ao n cap zs := by
  refine ⟨h.len, h.row.1, ?_⟩
  rcases h.row.2 with hn | ⟨g, cap', cur, hv, hg, hh, r⟩
  · exact Or.inl hn
  · refine Or.inr ⟨g, cap', cur, hv, hg, ?_, r⟩
    have e1 : ao = some ⟨g, 0, none⟩ := by simp only [Value.slice.injEq] at hv; exact hv.1
    rw [ho.block g (Array.getElem?_eq_some_iff.1 hh).1 (hno _ e1)]
    exact hh

/-- Behind a call F has become F'; nothing outside F has turned, and what is new in F' is new memory. -/
structure Goes (F : Nat → Prop) (w : World) (F' : Nat → Prop) (w' : World) : Prop where
  off : Off F w w'
  new : ∀ j, F' j → F j ∨ w.heap.size ≤ j
theorem Goes.refl (F : Nat → Prop) (w : World) : Goes F w F w := ⟨Off.refl _ _, fun _ h => Or.inl h⟩
theorem Goes.trans {F F' F'' : Nat → Prop} {a b c : World} (h : Goes F a F' b) (k : Goes F' b F'' c) : Goes F a F'' c :=
  ⟨h.off.trans k.off h.new, fun j hj => by
    rcases k.new j hj with h1 | h1
    · exact h.new j h1
    · exact Or.inr (Nat.le_trans h.off.size h1)⟩
theorem Goes.of_below {F : Nat → Prop} {w w' : World} (h : Below w.heap.size w w') : Goes F w F w' := ⟨Off.of_below h, fun _ h => Or.inl h⟩
theorem Goes.drewN {F F' : Nat → Prop} {a w : World} (h : Goes F a F' w) (n : Nat) : Goes F a F' (w.drewN n) := ⟨h.off.drewN n, h.new⟩
end Go.Proofs.YtpbljjbhfhfmgaaGreatDoor
/- Classes of cells: what chapter 12 says of numbers, as functions of integers. -/
namespace Go.Proofs.YtpbljjbhfhfmgaaGreatDoor
set_option maxRecDepth 100000
set_option linter.unusedVariables false

/-- The words of each class's cells. -/
def szL : List Int := [2, 3, 5, 7, 10, 15]
/-- The class of an object of so many bytes (0: none). -/
def clN (n : Int) : Nat := if n ≤ 16 then 0 else if n ≤ 24 then 1 else if n ≤ 40 then 2 else if n ≤ 56 then 3 else if n ≤ 80 then 4 else if n ≤ 120 then 5 else 0
def clB (n : Int) : Bool := decide (1 ≤ n ∧ n ≤ 120)
/-- The words of a class's cells, the cells of its slabs (0: none). -/
def wdN (c : Int) : Int := if c = 0 then 2 else if c = 1 then 3 else if c = 2 then 5 else if c = 3 then 7 else if c = 4 then 10 else if c = 5 then 15 else 0
def wdE (c : Int) : Int := if 0 ≤ c ∧ c < 6 then 0 else 1
def ceN (c : Int) : Int := if c = 0 then 14 else if c = 1 then 9 else if c = 2 then 5 else if c = 3 then 4 else if c = 4 then 2 else if c = 5 then 1 else 0
/-- The pages of a large object. -/
def pgN (n : Int) : Int := if 120 < n ∧ n ≤ 2048 then (n + 255) / 256 else 0
def pgE (n : Int) : Int := if 120 < n ∧ n ≤ 2048 then 0 else 1
/-- The word where a cell begins. -/
def CtOk (c k : Int) : Prop := 0 ≤ k ∧ k < ceN c
instance (c k : Int) : Decidable (CtOk c k) := by unfold CtOk; exact inferInstance
def ctN (c k : Int) : Int := if CtOk c k then 4 + k * wdN c else 0
def ctE (c k : Int) : Int := if CtOk c k then 0 else 1
/-- The cell that begins at a word. -/
def WhOk (c o : Int) : Prop := 4 ≤ o ∧ (o - 4) / wdN c < ceN c ∧ (o - 4) % wdN c = 0
instance (c o : Int) : Decidable (WhOk c o) := by unfold WhOk; exact inferInstance
def whN (c o : Int) : Int := if WhOk c o then (o - 4) / wdN c else 0
def whB (c o : Int) : Bool := decide (WhOk c o)

theorem cls_cases (c : Int) : (c = 0 ∨ c = 1 ∨ c = 2 ∨ c = 3 ∨ c = 4 ∨ c = 5) ∨ (¬ (0 ≤ c ∧ c < 6)) := by omega
theorem wdN_out {c : Int} (h : ¬ (0 ≤ c ∧ c < 6)) : wdN c = 0 := by
  unfold wdN
  rw [if_neg (by omega), if_neg (by omega), if_neg (by omega), if_neg (by omega), if_neg (by omega), if_neg (by omega)]
theorem ceN_out {c : Int} (h : ¬ (0 ≤ c ∧ c < 6)) : ceN c = 0 := by
  unfold ceN
  rw [if_neg (by omega), if_neg (by omega), if_neg (by omega), if_neg (by omega), if_neg (by omega), if_neg (by omega)]
theorem wdE_out {c : Int} (h : ¬ (0 ≤ c ∧ c < 6)) : wdE c = 1 := if_neg h
theorem wdE_in {c : Int} (h : 0 ≤ c ∧ c < 6) : wdE c = 0 := if_pos h
theorem ctOk_out {c k : Int} (h : ¬ (0 ≤ c ∧ c < 6)) : ¬ CtOk c k := fun hk => by have := ceN_out h; obtain ⟨h1, h2⟩ := hk; omega
theorem whOk_out {c o : Int} (h : ¬ (0 ≤ c ∧ c < 6)) : ¬ WhOk c o := fun hk => by
  obtain ⟨h1, h2, h3⟩ := hk
  rw [wdN_out h, ceN_out h, Int.ediv_zero] at h2
  omega
/-- What is known of a class's words and cells. -/
theorem cls_in {c : Int} (h : 0 ≤ c ∧ c < 6) : 2 ≤ wdN c ∧ wdN c ≤ 15 ∧ 1 ≤ ceN c ∧ ceN c ≤ 14 ∧ 4 + wdN c * ceN c ≤ 32 ∧ 32 < 4 + wdN c * (ceN c + 1) := by
  rcases (show c = 0 ∨ c = 1 ∨ c = 2 ∨ c = 3 ∨ c = 4 ∨ c = 5 by omega) with rfl | rfl | rfl | rfl | rfl | rfl <;> decide
theorem ct_f {c k : Int} (h : ¬ CtOk c k) : ctN c k = 0 ∧ ctE c k = 1 := ⟨if_neg h, if_neg h⟩
theorem ct_t {c k : Int} (h : CtOk c k) : ctN c k = 4 + k * wdN c ∧ ctE c k = 0 := ⟨if_pos h, if_pos h⟩
theorem wh_f {c o : Int} (h : ¬ WhOk c o) : whN c o = 0 ∧ whB c o = false := ⟨if_neg h, decide_eq_false h⟩
theorem wh_t {c o : Int} (h : WhOk c o) : whN c o = (o - 4) / wdN c ∧ whB c o = true := ⟨if_pos h, decide_eq_true h⟩
theorem CtOk.cls {c k : Int} (h : CtOk c k) : 0 ≤ c ∧ c < 6 := Decidable.byContradiction fun hn => ctOk_out hn h
theorem WhOk.cls {c k : Int} (h : WhOk c k) : 0 ≤ c ∧ c < 6 := Decidable.byContradiction fun hn => whOk_out hn h
/-- Cell, then Which. -/
theorem wh_ct {c k : Int} (h : CtOk c k) : WhOk c (ctN c k) ∧ whN c (ctN c k) = k := by
  have hc := h.cls
  obtain ⟨w1, w2, _⟩ := cls_in hc
  obtain ⟨e, _⟩ := ct_t h
  have h1 : (4 + k * wdN c - 4) = k * wdN c := by omega
  have h2 : (k * wdN c) / wdN c = k := Int.mul_ediv_cancel _ (by omega)
  have ok : WhOk c (ctN c k) := by
    rw [e]
    refine ⟨?_, ?_, ?_⟩
    · have := Int.mul_nonneg h.1 (show 0 ≤ wdN c by omega)
      omega
    · rw [h1, h2]; exact h.2
    · rw [h1]; exact Int.mul_emod_left _ _
  refine ⟨ok, ?_⟩
  rw [(wh_t ok).1, e, h1, h2]
/-- Which, then Cell. -/
theorem ct_wh {c o : Int} (h : WhOk c o) : CtOk c (whN c o) ∧ ctN c (whN c o) = o := by
  have hc := h.cls
  obtain ⟨w1, w2, _⟩ := cls_in hc
  obtain ⟨e, _⟩ := wh_t h
  obtain ⟨h1, h2, h3⟩ := h
  have ok : CtOk c (whN c o) := by
    rw [e]
    exact ⟨Int.ediv_nonneg (by omega) (by omega), h2⟩
  refine ⟨ok, ?_⟩
  rw [(ct_t ok).1, e]
  have := Int.mul_ediv_add_emod (o - 4) (wdN c)
  rw [h3, Int.mul_comm] at this
  omega
theorem pg_t {n : Int} (h : 120 < n ∧ n ≤ 2048) : pgN n = (n + 255) / 256 ∧ pgE n = 0 := ⟨if_pos h, if_pos h⟩
theorem pg_f {n : Int} (h : ¬ (120 < n ∧ n ≤ 2048)) : pgN n = 0 ∧ pgE n = 1 := ⟨if_neg h, if_neg h⟩
theorem cl_f {n : Int} (h : ¬ (1 ≤ n ∧ n ≤ 120)) : clN n = 0 ∧ clB n = false := by
  refine ⟨?_, decide_eq_false h⟩
  unfold clN
  by_cases h1 : n ≤ 16
  · rw [if_pos h1]
  · rw [if_neg h1, if_neg (by omega), if_neg (by omega), if_neg (by omega), if_neg (by omega), if_neg (by omega)]
theorem cl_b {n : Int} (h : 1 ≤ n ∧ n ≤ 120) : clB n = true := decide_eq_true h
theorem clN_lt (n : Int) : clN n < 6 := by
  unfold clN
  split <;> try omega
  split <;> try omega
  split <;> try omega
  split <;> try omega
  split <;> try omega
  split <;> omega
/-- A small one's class is the first whose cell holds it. -/
theorem clN_at {n : Int} {k : Nat} (hk : k < 6) (h0 : 1 ≤ n) (h : n ≤ 8 * szL.getD k 0) (hl : ∀ i, i < k → ¬ n ≤ 8 * szL.getD i 0) : clN n = k ∧ clB n = true := by
  have p0 := hl 0; have p1 := hl 1; have p2 := hl 2; have p3 := hl 3; have p4 := hl 4
  rcases (show k = 0 ∨ k = 1 ∨ k = 2 ∨ k = 3 ∨ k = 4 ∨ k = 5 by omega) with rfl | rfl | rfl | rfl | rfl | rfl
  · have : n ≤ 16 := h
    exact ⟨by unfold clN; rw [if_pos this], cl_b ⟨h0, by omega⟩⟩
  · have : n ≤ 24 := h
    have q0 : ¬ n ≤ 16 := p0 (by omega)
    exact ⟨by unfold clN; rw [if_neg q0, if_pos this], cl_b ⟨h0, by omega⟩⟩
  · have : n ≤ 40 := h
    have q0 : ¬ n ≤ 24 := p1 (by omega)
    exact ⟨by unfold clN; rw [if_neg (by omega), if_neg q0, if_pos this], cl_b ⟨h0, by omega⟩⟩
  · have : n ≤ 56 := h
    have q0 : ¬ n ≤ 40 := p2 (by omega)
    exact ⟨by unfold clN; rw [if_neg (by omega), if_neg (by omega), if_neg q0, if_pos this], cl_b ⟨h0, by omega⟩⟩
  · have : n ≤ 80 := h
    have q0 : ¬ n ≤ 56 := p3 (by omega)
    exact ⟨by unfold clN; rw [if_neg (by omega), if_neg (by omega), if_neg (by omega), if_neg q0, if_pos this], cl_b ⟨h0, by omega⟩⟩
  · have : n ≤ 120 := h
    have q0 : ¬ n ≤ 80 := p4 (by omega)
    exact ⟨by unfold clN; rw [if_neg (by omega), if_neg (by omega), if_neg (by omega), if_neg (by omega), if_neg q0, if_pos this], cl_b ⟨h0, by omega⟩⟩
theorem cl_out {n : Int} (hl : ∀ i, i < 6 → ¬ n ≤ 8 * szL.getD i 0) : clN n = 0 ∧ clB n = false := by
  have q : ¬ n ≤ 120 := hl 5 (by omega)
  exact cl_f (by omega)
/-- A small one's cell holds it, one of a lesser class does not. -/
theorem cl_holds {n : Int} (h : 1 ≤ n ∧ n ≤ 120) : n ≤ 8 * wdN (clN n) ∧ 8 * wdN ((clN n : Int) - 1) < n ∧ (wdE ((clN n : Int) - 1) = 0 ∨ wdE ((clN n : Int) - 1) = 1) := by
  refine ⟨?_, ?_, ?_⟩
  · unfold clN
    split <;> (try (simp [wdN]; omega))
    split <;> (try (simp [wdN]; omega))
    split <;> (try (simp [wdN]; omega))
    split <;> (try (simp [wdN]; omega))
    split <;> (try (simp [wdN]; omega))
    split <;> (simp [wdN]; omega)
  · unfold clN
    split <;> (try (simp [wdN]; omega))
    split <;> (try (simp [wdN]; omega))
    split <;> (try (simp [wdN]; omega))
    split <;> (try (simp [wdN]; omega))
    split <;> (try (simp [wdN]; omega))
    split <;> (simp [wdN]; omega)
  · unfold wdE
    split
    · exact Or.inl rfl
    · exact Or.inr rfl
end Go.Proofs.YtpbljjbhfhfmgaaGreatDoor
/- Objects in pages in plain words: which lie right, what kind a page is, what a further object turns. -/
namespace Go.Proofs.YtpbljjbhfhfmgaaGreatDoor
set_option maxRecDepth 100000
set_option linter.unusedVariables false
set_option linter.unusedSimpArgs false

/-- A small object (pos: its At, sz: its Len) that lies in a cell. -/
def SmC (o : Spn) : Prop := (1 ≤ o.sz ∧ o.sz ≤ 120) ∧ 0 ≤ o.pos ∧ WhOk (clN o.sz) (o.pos % 32)
instance (o : Spn) : Decidable (SmC o) := by unfold SmC; exact inferInstance
/-- A large one that lies in so many pages. -/
def LgC (P : Int) (o : Spn) : Prop := (120 < o.sz ∧ o.sz ≤ 2048) ∧ 0 ≤ o.pos ∧ o.pos % 32 = 0 ∧ o.pos / 32 + pgN o.sz ≤ P
instance (P : Int) (o : Spn) : Decidable (LgC P o) := by unfold LgC; exact inferInstance
def InC (P : Int) (o : Spn) : Prop := (SmC o ∧ o.pos / 32 < P) ∨ LgC P o
instance (P : Int) (o : Spn) : Decidable (InC P o) := by unfold InC; exact inferInstance
/-- Its first page, and how many it has. -/
def pgA (o : Spn) : Int := o.pos / 32
def pgK (o : Spn) : Int := if o.sz ≤ 120 then 1 else pgN o.sz
def HasC (o : Spn) (p : Int) : Prop := pgA o ≤ p ∧ p < pgA o + pgK o
instance (o : Spn) (p : Int) : Decidable (HasC o p) := by unfold HasC; exact inferInstance
/-- The kind that it gives to a page of its own. -/
def kdO (o : Spn) (p : Int) : Int := if o.sz ≤ 120 then (clN o.sz : Int) else if p = pgA o then 6 else 7
/-- Two that may lie beside each other. -/
def FitO (a b : Spn) : Prop := a.pos ≠ b.pos ∧ (pgA a + pgK a ≤ pgA b ∨ pgA b + pgK b ≤ pgA a ∨ (a.sz ≤ 120 ∧ b.sz ≤ 120 ∧ clN a.sz = clN b.sz))
instance (a b : Spn) : Decidable (FitO a b) := by unfold FitO; exact inferInstance
theorem FitO.symm {a b : Spn} (h : FitO a b) : FitO b a := by
  obtain ⟨h1, h2⟩ := h
  refine ⟨fun e => h1 e.symm, ?_⟩
  rcases h2 with h2 | h2 | ⟨x, y, z⟩
  · exact Or.inr (Or.inl h2)
  · exact Or.inl h2
  · exact Or.inr (Or.inr ⟨y, x, z.symm⟩)
/-- Objects are right in so many pages. -/
structure RightO (P : Int) (l : List Spn) : Prop where
  rng : 0 ≤ P ∧ P ≤ 64
  lie : ∀ o ∈ l, InC P o
  fit : l.Pairwise FitO
theorem rightO_iff {P : Int} {l : List Spn} : RightO P l ↔ ((0 ≤ P ∧ P ≤ 64) ∧ (∀ o ∈ l, InC P o) ∧ l.Pairwise FitO) := ⟨fun h => ⟨h.1, h.2, h.3⟩, fun h => ⟨h.1, h.2.1, h.2.2⟩⟩
instance (P : Int) (l : List Spn) : Decidable (RightO P l) := decidable_of_iff _ rightO_iff.symm
theorem InC.len {P : Int} {o : Spn} (h : InC P o) : 1 ≤ o.sz ∧ o.sz ≤ 2048 ∧ 0 ≤ o.pos := by
  rcases h with ⟨⟨h1, h2, _⟩, _⟩ | ⟨h1, h2, _⟩ <;> exact ⟨by omega, by omega, h2⟩
theorem pgN_in {n : Int} (h : 120 < n ∧ n ≤ 2048) : 1 ≤ pgN n ∧ pgN n ≤ 8 := by rw [(pg_t h).1]; omega
theorem InC.pgk {P : Int} {o : Spn} (h : InC P o) : 1 ≤ pgK o ∧ pgK o ≤ 8 := by
  obtain ⟨a, b, c⟩ := h.len
  unfold pgK
  split
  · omega
  · exact pgN_in ⟨by omega, b⟩
theorem pgK_small {o : Spn} (h : o.sz ≤ 120) : pgK o = 1 := if_pos h
theorem pgK_large {o : Spn} (h : ¬ o.sz ≤ 120) : pgK o = pgN o.sz := if_neg h
theorem InC.small {P : Int} {o : Spn} (h : InC P o) (hs : o.sz ≤ 120) : SmC o ∧ pgA o < P := by
  rcases h with ⟨h1, h2⟩ | ⟨h1, _⟩
  · exact ⟨h1, h2⟩
  · omega
theorem InC.large {P : Int} {o : Spn} (h : InC P o) (hs : ¬ o.sz ≤ 120) : LgC P o := by
  rcases h with ⟨⟨h1, _⟩, h2⟩ | h1
  · omega
  · exact h1
theorem InC.within {P : Int} {o : Spn} (h : InC P o) : 0 ≤ pgA o ∧ pgA o + pgK o ≤ P := by
  obtain ⟨a, b, c⟩ := h.len
  refine ⟨by unfold pgA; omega, ?_⟩
  by_cases hs : o.sz ≤ 120
  · rw [pgK_small hs]; have := (h.small hs).2; omega
  · rw [pgK_large hs]; exact (h.large hs).2.2.2
theorem InC.has {P : Int} {o : Spn} (h : InC P o) {p : Int} (hp : HasC o p) : 0 ≤ p ∧ p < P := by
  obtain ⟨a, b⟩ := h.within
  obtain ⟨c, d⟩ := hp
  omega
theorem InC.first {P : Int} {o : Spn} (h : InC P o) : HasC o (pgA o) := ⟨Int.le_refl _, by have := h.pgk; omega⟩
theorem kdO_nn (o : Spn) (p : Int) : 0 ≤ kdO o p ∧ kdO o p ≤ 7 := by
  have := clN_lt o.sz
  unfold kdO
  split
  · omega
  · split <;> omega
theorem kdO_small {o : Spn} (h : o.sz ≤ 120) (p : Int) : kdO o p = clN o.sz := if_pos h
theorem kdO_large {o : Spn} (h : ¬ o.sz ≤ 120) (p : Int) : kdO o p = if p = pgA o then 6 else 7 := if_neg h
theorem kdO_lt {o : Spn} {p : Int} : kdO o p < 6 ↔ o.sz ≤ 120 := by
  have := clN_lt o.sz
  unfold kdO
  split
  · omega
  · split <;> omega
theorem FitO.share {a b : Spn} {p : Int} (h : FitO a b) (ha : HasC a p) (hb : HasC b p) : a.sz ≤ 120 ∧ b.sz ≤ 120 ∧ clN a.sz = clN b.sz := by
  obtain ⟨_, h2⟩ := h
  obtain ⟨a1, a2⟩ := ha
  obtain ⟨b1, b2⟩ := hb
  rcases h2 with h2 | h2 | h2
  · omega
  · omega
  · exact h2
theorem RightO.nil {P : Int} (h : 0 ≤ P ∧ P ≤ 64) : RightO P [] := ⟨h, fun o ho => (List.not_mem_nil ho).elim, List.Pairwise.nil⟩
theorem rightO_snoc {P : Int} {l : List Spn} {o : Spn} : RightO P (l ++ [o]) ↔ RightO P l ∧ InC P o ∧ ∀ a ∈ l, FitO a o := by
  constructor
  · rintro ⟨h1, h2, h3⟩
    obtain ⟨f1, f2, f3⟩ := List.pairwise_append.1 h3
    exact ⟨⟨h1, fun x hx => h2 x (List.mem_append.2 (Or.inl hx)), f1⟩, h2 o (by simp), fun a ha => f3 a ha o (by simp)⟩
  · rintro ⟨⟨h1, h2, h3⟩, h4, h5⟩
    refine ⟨h1, fun x hx => ?_, List.pairwise_append.2 ⟨h3, List.pairwise_singleton _ _, fun a ha b hb => ?_⟩⟩
    · rcases List.mem_append.1 hx with hx | hx
      · exact h2 x hx
      · rw [List.mem_singleton.1 hx]; exact h4
    · rw [List.mem_singleton.1 hb]; exact h5 a ha
theorem RightO.two {P : Int} {l : List Spn} (h : RightO P l) {a b : Spn} (ha : a ∈ l) (hb : b ∈ l) (hne : a ≠ b) : FitO a b := by
  obtain ⟨i, hi, rfl⟩ := mem_pa ha
  obtain ⟨j, hj, rfl⟩ := mem_pa hb
  have hf := List.pairwise_iff_getElem.1 h.fit
  have e : ∀ k (hk : k < l.length), pa l k = l[k] := fun k hk => by simp [pa, List.getD, hk]
  rcases Nat.lt_trichotomy i j with hij | hij | hij
  · rw [e i hi, e j hj]; exact hf i j hi hj hij
  · subst hij; exact (hne rfl).elim
  · rw [e i hi, e j hj]; exact (hf j i hj hi hij).symm
theorem RightO.take {P : Int} {l : List Spn} (h : RightO P l) (k : Nat) : RightO P (l.take k) := ⟨h.rng, fun o ho => h.lie o (List.mem_of_mem_take ho), h.fit.sublist (List.take_sublist k l)⟩
/-- No two are at one place. -/
theorem RightO.ne {P : Int} {l : List Spn} (h : RightO P l) {i j : Nat} (hi : i < l.length) (hj : j < l.length) (hij : i ≠ j) : FitO (pa l i) (pa l j) := by
  have hf := List.pairwise_iff_getElem.1 h.fit
  have e : ∀ k (hk : k < l.length), pa l k = l[k] := fun k hk => by simp [pa, List.getD, hk]
  rcases Nat.lt_trichotomy i j with h1 | h1 | h1
  · rw [e i hi, e j hj]; exact hf i j hi hj h1
  · exact (hij h1).elim
  · rw [e i hi, e j hj]; exact (hf j i hj hi h1).symm

/-- The kind of a page: -1 of one that is nobody's. -/
def kdL (l : List Spn) (p : Int) : Int := match l.find? (fun o => decide (HasC o p)) with
  | some o => kdO o p
  | none => -1
theorem kdL_free {l : List Spn} {p : Int} (h : ∀ o ∈ l, ¬ HasC o p) : kdL l p = -1 := by
  unfold kdL
  rw [List.find?_eq_none.2 (fun o ho => by simpa using h o ho)]
theorem kdL_find {l : List Spn} {p : Int} (h : kdL l p ≠ -1) : ∃ o ∈ l, HasC o p ∧ kdL l p = kdO o p := by
  unfold kdL at h ⊢
  cases e : l.find? (fun o => decide (HasC o p)) with
  | none => rw [e] at h; exact (h rfl).elim
  | some o => exact ⟨o, List.mem_of_find?_eq_some e, by simpa using List.find?_some e, rfl⟩
theorem kdL_has {P : Int} {l : List Spn} (h : RightO P l) {o : Spn} (ho : o ∈ l) {p : Int} (hp : HasC o p) : kdL l p = kdO o p := by
  unfold kdL
  cases e : l.find? (fun o => decide (HasC o p)) with
  | none => exact ((List.find?_eq_none.1 e o ho) (by simpa using hp)).elim
  | some a =>
    have ha := List.mem_of_find?_eq_some e
    have hap : HasC a p := by simpa using List.find?_some e
    by_cases hao : a = o
    · rw [hao]
    · obtain ⟨s1, s2, s3⟩ := (h.two ha ho hao).share hap hp
      show kdO a p = kdO o p
      rw [kdO_small s1, kdO_small s2, s3]
theorem kdL_neg {P : Int} {l : List Spn} (h : RightO P l) {p : Int} : kdL l p = -1 ↔ ∀ o ∈ l, ¬ HasC o p := by
  refine ⟨fun e o ho hp => ?_, kdL_free⟩
  rw [kdL_has h ho hp] at e
  have := kdO_nn o p
  omega
theorem kdL_rg (l : List Spn) (p : Int) : -1 ≤ kdL l p ∧ kdL l p ≤ 7 := by
  by_cases h : kdL l p = -1
  · omega
  · obtain ⟨o, _, _, e⟩ := kdL_find h
    have := kdO_nn o p
    omega
theorem kdL_snoc {P : Int} {l : List Spn} {o : Spn} (h : RightO P (l ++ [o])) (p : Int) : kdL (l ++ [o]) p = if HasC o p then kdO o p else kdL l p := by
  obtain ⟨hl, ho, hf⟩ := rightO_snoc.1 h
  by_cases hp : HasC o p
  · rw [if_pos hp]
    exact kdL_has h (by simp) hp
  · rw [if_neg hp]
    by_cases e : kdL l p = -1
    · rw [e]
      exact kdL_free (fun x hx => by
        rcases List.mem_append.1 hx with hx | hx
        · exact (kdL_neg hl).1 e x hx
        · rw [List.mem_singleton.1 hx]; exact hp)
    · obtain ⟨x, hx, hxp, e2⟩ := kdL_find e
      rw [e2]
      exact kdL_has h (List.mem_append.2 (Or.inl hx)) hxp
/-- What a small one asks of those that are there. -/
theorem fit_small {P : Int} {l : List Spn} {o : Spn} (h : RightO P l) (hs : o.sz ≤ 120) :
    (∀ a ∈ l, FitO a o) ↔ ((kdL l (pgA o) = -1 ∨ kdL l (pgA o) = clN o.sz) ∧ ∀ a ∈ l, a.pos ≠ o.pos) := by
  have hp : HasC o (pgA o) := ⟨Int.le_refl _, by rw [pgK_small hs]; omega⟩
  constructor
  · intro hf
    refine ⟨?_, fun a ha => (hf a ha).1⟩
    by_cases e : kdL l (pgA o) = -1
    · exact Or.inl e
    · obtain ⟨a, ha, hap, e2⟩ := kdL_find e
      obtain ⟨s1, s2, s3⟩ := (hf a ha).share hap hp
      right
      rw [e2, kdO_small s1, s3]
  · rintro ⟨hk, hn⟩ a ha
    refine ⟨hn a ha, ?_⟩
    by_cases h1 : pgA a + pgK a ≤ pgA o
    · exact Or.inl h1
    by_cases h2 : pgA o + pgK o ≤ pgA a
    · exact Or.inr (Or.inl h2)
    rw [pgK_small hs] at h2
    have hap : HasC a (pgA o) := ⟨by omega, by omega⟩
    have e := kdL_has h ha hap
    have nn := kdO_nn a (pgA o)
    have hc := clN_lt o.sz
    have hlt : kdO a (pgA o) < 6 := by omega
    have hsa := kdO_lt.1 hlt
    rw [kdO_small hsa] at e nn
    exact Or.inr (Or.inr ⟨hsa, hs, by omega⟩)
theorem fit_large {P : Int} {l : List Spn} {o : Spn} (h : RightO P l) (ho : InC P o) (hs : ¬ o.sz ≤ 120) :
    (∀ a ∈ l, FitO a o) ↔ ∀ p, HasC o p → kdL l p = -1 := by
  constructor
  · intro hf p hp
    refine (kdL_neg h).2 fun a ha hap => ?_
    exact hs ((hf a ha).share hap hp).2.1
  · intro hk a ha
    have hA := (h.lie a ha).pgk
    have hO := ho.pgk
    have dis : ∀ p, HasC o p → ¬ HasC a p := fun p hp => (kdL_neg h).1 (hk p hp) a ha
    have d1 := dis (pgA o) ho.first
    have d2 : ¬ HasC o (pgA a) := fun hx => dis _ hx (h.lie a ha).first
    unfold HasC at d1 d2
    refine ⟨fun e => ?_, ?_⟩
    · have : pgA a = pgA o := by unfold pgA; rw [e]
      omega
    · omega
/-- The kinds of all pages; none, if the objects are not right. -/
def kzN (P : Int) (l : List Spn) : List Int := (List.range P.toNat).map (fun p => kdL l (p : Nat))
def kzL (P : Int) (l : List Spn) : List Int := if RightO P l then kzN P l else []
def rtO (P : Int) (l : List Spn) : Bool := decide (RightO P l)
theorem kz_t {P : Int} {l : List Spn} (h : RightO P l) : kzL P l = kzN P l ∧ rtO P l = true := ⟨if_pos h, decide_eq_true h⟩
theorem kz_f {P : Int} {l : List Spn} (h : ¬ RightO P l) : kzL P l = [] ∧ rtO P l = false := ⟨if_neg h, decide_eq_false h⟩
theorem kzN_len (P : Int) (l : List Spn) : (kzN P l).length = P.toNat := by simp [kzN]
theorem kzN_at {P : Int} {l : List Spn} {i : Nat} (h : i < P.toNat) (d : Int) : (kzN P l).getD i d = kdL l i := by simp [kzN, List.getD, h]
theorem RightO.small {P : Int} {l : List Spn} (h : RightO P l) {o : Spn} (hs : o.sz ≤ 120) : RightO P (l ++ [o]) ↔ InC P o ∧ (kdL l (pgA o) = -1 ∨ kdL l (pgA o) = clN o.sz) ∧ ∀ a ∈ l, a.pos ≠ o.pos := by
  rw [rightO_snoc, fit_small h hs]
  exact ⟨fun x => x.2, fun x => ⟨h, x⟩⟩
theorem RightO.large {P : Int} {l : List Spn} (h : RightO P l) {o : Spn} (hs : ¬ o.sz ≤ 120) : RightO P (l ++ [o]) ↔ InC P o ∧ ∀ p, HasC o p → kdL l p = -1 := by
  rw [rightO_snoc]
  exact ⟨fun x => ⟨x.2.1, (fit_large h x.2.1 hs).1 x.2.2⟩, fun x => ⟨h, x.1, (fit_large h x.1 hs).2 x.2⟩⟩
end Go.Proofs.YtpbljjbhfhfmgaaGreatDoor
/- Rows of bytes that can be read. -/
namespace Go.Proofs.YtpbljjbhfhfmgaaGreatDoor
set_option maxRecDepth 100000
open Go.RowKit
set_option linter.unusedVariables false
set_option linter.unusedSimpArgs false

/-- n rows of bytes that can be read: the i-th is the slice of A i, N i, C i. -/
structure Rd (w : World) (ao : Option Addr) (n cap : Nat) (A : Nat → Option Addr) (N C : Nat → Nat) (ds : List (List Int)) : Prop where
  len : ds.length = n
  room : n ≤ cap
  void : ao = none → cap = 0
  here : 0 < n → ∃ b off, ao = some ⟨b, off, none⟩ ∧ b < w.heap.size ∧ ∀ i, i < n → w.cell? ⟨b, off + i, none⟩ = some (.slice (A i) (N i) (C i))
  row : ∀ i, i < n → Sl .u8 w (A i) (N i) (C i) (da ds i)
  bytes : ∀ i, i < n → Bytes (da ds i)
  caps : ∀ i, i < n → C i ≤ 9223372036854775807
theorem Rd.below {w w' : World} {ao : Option Addr} {n cap : Nat} {A : Nat → Option Addr} {N C : Nat → Nat} {ds : List (List Int)} (h : Rd w ao n cap A N C ds) (hb : Below w.heap.size w w') : Rd w' ao n cap A N C ds := by
  refine ⟨h.len, h.room, h.void, fun hn => ?_, fun i hi => (h.row i hi).below hb, h.bytes, h.caps⟩
  obtain ⟨b, off, e, hlt, hc⟩ := h.here hn
  refine ⟨b, off, e, Nat.lt_of_lt_of_le hlt hb.size, fun i hi => ?_⟩
  rw [hb.cell (p := ⟨b, off + i, none⟩) hlt]
  exact hc i hi
theorem Rd.off {F : Nat → Prop} {w w' : World} {ao : Option Addr} {n cap : Nat} {A : Nat → Option Addr} {N C : Nat → Nat} {ds : List (List Int)} (h : Rd w ao n cap A N C ds) (ho : Off F w w') (hF : ∀ j, j < w.heap.size → ¬ F j) : Rd w' ao n cap A N C ds :=
  h.below ⟨ho.os, ho.tape, ho.output, ho.size, fun k hk => ho.block k hk (hF k hk)⟩
theorem Rd.cell {w wr : World} {b off n cap : Nat} {A : Nat → Option Addr} {N C : Nat → Nat} {ds : List (List Int)} (h : Rd w (some ⟨b, off, none⟩) n cap A N C ds) (hb : Below w.heap.size w wr) {i : Nat} (hi : i < n) : wr.cell? ⟨b, off + i, none⟩ = some (.slice (A i) (N i) (C i)) := by
  obtain ⟨b', o', e, _, hc⟩ := (h.below hb).here (by omega)
  simp only [Option.some.injEq, Addr.mk.injEq, and_true] at e
  obtain ⟨rfl, rfl⟩ := e
  exact hc i hi
theorem rd_nil (w : World) (A : Nat → Option Addr) (N C : Nat → Nat) : Rd w none 0 0 A N C [] := ⟨rfl, Nat.le_refl _, fun _ => rfl, fun h => absurd h (by omega), fun i h => absurd h (by omega), fun i h => absurd h (by omega), fun i h => absurd h (by omega)⟩
end Go.Proofs.YtpbljjbhfhfmgaaGreatDoor
/- Rows of free pages in plain words, and the one that fits best. -/
namespace Go.Proofs.YtpbljjbhfhfmgaaGreatDoor
set_option maxRecDepth 100000
set_option linter.unusedVariables false
set_option linter.unusedSimpArgs false

/-- The kind at a place (0 beyond the end: not free). -/
def ka (ks : List Int) (i : Nat) : Int := ks.getD i 0
/-- How many free ones stand from a place on. -/
def rlN (ks : List Int) (i : Nat) : Nat := ((ks.drop i).takeWhile (fun k => k == -1)).length
theorem ka_past {ks : List Int} {i : Nat} (h : ks.length ≤ i) : ka ks i = 0 := by simp [ka, List.getD, List.getElem?_eq_none h]
theorem ka_lt {ks : List Int} {i : Nat} (h : ka ks i = -1) : i < ks.length := by
  apply Decidable.byContradiction
  intro hn
  rw [ka_past (by omega)] at h
  omega
theorem drop_ka {ks : List Int} {i : Nat} (h : i < ks.length) : ks.drop i = ka ks i :: ks.drop (i + 1) := by
  rw [List.drop_eq_getElem_cons h]
  simp [ka, List.getD, h]
theorem rl_free {ks : List Int} {i : Nat} (h : ka ks i = -1) : rlN ks i = rlN ks (i + 1) + 1 := by
  unfold rlN
  rw [drop_ka (ka_lt h), h]
  simp
theorem rl_not {ks : List Int} {i : Nat} (h : ka ks i ≠ -1) : rlN ks i = 0 := by
  unfold rlN
  by_cases hl : i < ks.length
  · rw [drop_ka hl, List.takeWhile_cons_of_neg (by simpa using h)]
    rfl
  · rw [List.drop_eq_nil_of_le (by omega)]
    rfl
theorem rl_in {ks : List Int} : ∀ {j i : Nat}, j < rlN ks i → ka ks (i + j) = -1 := by
  intro j
  induction j with
  | zero =>
    intro i h
    apply Decidable.byContradiction
    intro hn
    rw [Nat.add_zero] at hn
    rw [rl_not hn] at h
    omega
  | succ j ih =>
    intro i h
    by_cases h0 : ka ks i = -1
    · rw [rl_free h0] at h
      have := ih (i := i + 1) (by omega)
      rw [show i + (j + 1) = i + 1 + j by omega]
      exact this
    · rw [rl_not h0] at h; omega
theorem rl_end {ks : List Int} : ∀ {n i : Nat}, rlN ks i = n → ka ks (i + n) ≠ -1 := by
  intro n
  induction n with
  | zero =>
    intro i h e
    rw [Nat.add_zero] at e
    rw [rl_free e] at h
    omega
  | succ n ih =>
    intro i h
    have h0 : ka ks i = -1 := by
      have := rl_in (ks := ks) (j := 0) (i := i) (by omega)
      exact this
    rw [rl_free h0] at h
    have := ih (i := i + 1) (by omega)
    rw [show i + (n + 1) = i + 1 + n by omega]
    exact this
theorem rl_le {ks : List Int} {i : Nat} (h : i ≤ ks.length) : i + rlN ks i ≤ ks.length := by
  unfold rlN
  have h1 : ((ks.drop i).takeWhile (fun k => k == -1)).length ≤ (ks.drop i).length := (List.takeWhile_sublist _).length_le
  rw [List.length_drop] at h1
  omega
/-- A row of n free ones from i on, and no more, has n. -/
theorem rl_eq {ks : List Int} {i n : Nat} (h : ∀ j, j < n → ka ks (i + j) = -1) (he : ka ks (i + n) ≠ -1) : rlN ks i = n := by
  rcases Nat.lt_trichotomy (rlN ks i) n with h1 | h1 | h1
  · exact (rl_end (n := rlN ks i) rfl (h _ h1)).elim
  · exact h1
  · exact (he (rl_in h1)).elim
/-- Does a longest row begin there? -/
def StR (ks : List Int) (i : Nat) : Prop := ka ks i = -1 ∧ (i = 0 ∨ ka ks (i - 1) ≠ -1)
instance (ks : List Int) (i : Nat) : Decidable (StR ks i) := by unfold StR; exact inferInstance
def rowF (ks : List Int) (i : Nat) : Spn := ⟨i, rlN ks i⟩
/-- The longest rows that begin below k. -/
def rnK (ks : List Int) (k : Nat) : List Spn := ((List.range k).filter (fun i => decide (StR ks i))).map (rowF ks)
def rnL (ks : List Int) : List Spn := rnK ks ks.length
theorem rn_zero (ks : List Int) : rnK ks 0 = [] := rfl
theorem rn_at {ks : List Int} {k : Nat} (h : StR ks k) : rnK ks (k + 1) = rnK ks k ++ [⟨k, rlN ks k⟩] := by
  unfold rnK
  rw [List.range_succ, List.filter_append, List.filter_cons_of_pos (by simpa using h)]
  simp [rowF]
theorem rn_skip {ks : List Int} {k : Nat} (h : ¬ StR ks k) : rnK ks (k + 1) = rnK ks k := by
  unfold rnK
  rw [List.range_succ, List.filter_append, List.filter_cons_of_neg (by simpa using h)]
  simp
theorem rn_skips {ks : List Int} {k : Nat} : ∀ {m : Nat}, (∀ i, k ≤ i → i < k + m → ¬ StR ks i) → rnK ks (k + m) = rnK ks k := by
  intro m
  induction m with
  | zero => intro _; rfl
  | succ m ih =>
    intro h
    rw [show k + (m + 1) = (k + m) + 1 by omega, rn_skip (h (k + m) (by omega) (by omega))]
    exact ih (fun i h1 h2 => h i h1 (by omega))
/-- Behind a row, and the page that ends it. -/
theorem rn_over {ks : List Int} {k : Nat} (h : StR ks k) : rnK ks (k + rlN ks k + 1) = rnK ks k ++ [⟨k, rlN ks k⟩] := by
  have h1 : 1 ≤ rlN ks k := by rw [rl_free h.1]; omega
  rw [← rn_at h, show k + rlN ks k + 1 = (k + 1) + rlN ks k by omega]
  refine rn_skips (fun i h2 h3 => ?_)
  rintro ⟨a, b⟩
  rcases b with b | b
  · omega
  · refine b ?_
    have := rl_in (ks := ks) (i := k) (j := i - 1 - k) (by
      by_cases hh : i = k + rlN ks k
      · exact (rl_end rfl (hh ▸ a)).elim
      · omega)
    rw [show k + (i - 1 - k) = i - 1 by omega] at this
    exact this
theorem rn_past {ks : List Int} {k : Nat} (h : ks.length ≤ k) : rnK ks k = rnL ks := by
  obtain ⟨m, rfl⟩ : ∃ m, k = ks.length + m := ⟨k - ks.length, by omega⟩
  exact rn_skips (fun i h1 h2 hs => by have := ka_lt hs.1; omega)
theorem rn_mem {ks : List Int} {k : Nat} {s : Spn} : s ∈ rnK ks k ↔ ∃ i, i < k ∧ StR ks i ∧ s = ⟨i, rlN ks i⟩ := by
  unfold rnK
  simp only [List.mem_map, List.mem_filter, List.mem_range, decide_eq_true_eq]
  constructor
  · rintro ⟨i, ⟨h1, h2⟩, rfl⟩; exact ⟨i, h1, h2, rfl⟩
  · rintro ⟨i, h1, h2, rfl⟩; exact ⟨i, ⟨h1, h2⟩, rfl⟩
theorem rn_len (ks : List Int) (k : Nat) : (rnK ks k).length ≤ k := by
  unfold rnK
  rw [List.length_map]
  exact Nat.le_trans (List.length_filter_le _ _) (by simp)
theorem rn_rise (ks : List Int) (k : Nat) : (rnK ks k).Pairwise (fun a b => a.pos < b.pos) := by
  unfold rnK
  rw [List.pairwise_map]
  refine List.Pairwise.imp ?_ ((List.pairwise_lt_range (n := k)).filter _)
  intro a b h
  show (a : Int) < (b : Int)
  omega
theorem rn_order {ks : List Int} {k i j : Nat} (hi : i < j) (hj : j < (rnK ks k).length) : (pa (rnK ks k) i).pos < (pa (rnK ks k) j).pos := by
  have h := List.pairwise_iff_getElem.1 (rn_rise ks k) i j (by omega) hj hi
  simpa [pa, List.getD, hj, Nat.lt_trans hi hj] using h
theorem rn_same {ks : List Int} {k i j : Nat} (hi : i < (rnK ks k).length) (hj : j < (rnK ks k).length) (he : (pa (rnK ks k) i).pos = (pa (rnK ks k) j).pos) : i = j := by
  rcases Nat.lt_trichotomy i j with h | h | h
  · have := rn_order h hj; omega
  · exact h
  · have := rn_order h hi; omega
/-- Each free page lies in a row. -/
theorem rn_cover {ks : List Int} : ∀ {i : Nat}, ka ks i = -1 → ∃ j, j ≤ i ∧ StR ks j ∧ i < j + rlN ks j := by
  intro i
  induction i with
  | zero => intro h; exact ⟨0, Nat.le_refl _, ⟨h, Or.inl rfl⟩, by rw [rl_free h]; omega⟩
  | succ i ih =>
    intro h
    by_cases hp : ka ks i = -1
    · obtain ⟨j, h1, h2, h3⟩ := ih hp
      refine ⟨j, by omega, h2, ?_⟩
      apply Decidable.byContradiction
      intro hn
      have e := rl_end (ks := ks) (i := j) (n := rlN ks j) rfl
      rw [show j + rlN ks j = i + 1 by omega] at e
      exact e h
    · exact ⟨i + 1, Nat.le_refl _, ⟨h, Or.inr (by simpa using hp)⟩, by rw [rl_free h]; omega⟩
/-- Free ones side by side lie in one row. -/
theorem rn_hold {ks : List Int} {i m : Nat} (hm : 1 ≤ m) (h : ∀ j, j < m → ka ks (i + j) = -1) : ∃ s ∈ rnL ks, s.pos ≤ i ∧ (i : Int) + m ≤ s.pos + s.sz := by
  obtain ⟨j, h1, h2, h3⟩ := rn_cover (h 0 (by omega))
  rw [Nat.add_zero] at h3 h1
  refine ⟨⟨j, rlN ks j⟩, rn_mem.2 ⟨j, by have := ka_lt h2.1; omega, h2, rfl⟩, by show (j : Int) ≤ i; omega, ?_⟩
  show (i : Int) + m ≤ (j : Int) + (rlN ks j : Nat)
  apply Decidable.byContradiction
  intro hn
  have e := rl_end (ks := ks) (i := j) (n := rlN ks j) rfl
  have := h (j + rlN ks j - i) (by omega)
  rw [show i + (j + rlN ks j - i) = j + rlN ks j by omega] at this
  exact e this
theorem rn_rg {ks : List Int} {k : Nat} (hl : ks.length ≤ 4294967296) : ∀ s ∈ rnK ks k, 0 ≤ s.pos ∧ 1 ≤ s.sz ∧ s.pos + s.sz ≤ ks.length := by
  intro s hs
  obtain ⟨i, h1, h2, rfl⟩ := rn_mem.1 hs
  have h3 := ka_lt h2.1
  have h4 := rl_le (ks := ks) (i := i) (by omega)
  have h5 := rl_free h2.1
  refine ⟨by show (0 : Int) ≤ (i : Nat); omega, by show (1 : Int) ≤ (rlN ks i : Nat); omega, by show (i : Int) + (rlN ks i : Nat) ≤ _; omega⟩
/-- The free ones of a row. -/
theorem rn_free {ks : List Int} {k : Nat} {s : Spn} (h : s ∈ rnK ks k) {p : Int} (h1 : s.pos ≤ p) (h2 : p < s.pos + s.sz) : ka ks p.toNat = -1 := by
  obtain ⟨i, _, h3, rfl⟩ := rn_mem.1 h
  have h1' : (i : Int) ≤ p := h1
  have h2' : p < (i : Int) + (rlN ks i : Nat) := h2
  have := rl_in (ks := ks) (i := i) (j := p.toNat - i) (by omega)
  rwa [show i + (p.toNat - i) = p.toNat by omega] at this
/-- Of rows of n at least the one with the fewest, of alike ones the first. -/
def btO (ks : List Int) (n : Int) : Option Spn := if 1 ≤ n then bsO (rnL ks) n else none
def btN (ks : List Int) (n : Int) : Int := ((btO ks n).getD Spn.z).pos
def btB (ks : List Int) (n : Int) : Bool := (btO ks n).isSome
theorem btK_f {ks : List Int} {n : Int} (h : btO ks n = none) : btN ks n = 0 ∧ btB ks n = false := by
  unfold btN btB
  rw [h]
  exact ⟨rfl, rfl⟩
theorem btK_t {ks : List Int} {n : Int} {s : Spn} (h : btO ks n = some s) : btN ks n = s.pos ∧ btB ks n = true := by
  unfold btN btB
  rw [h]
  exact ⟨rfl, rfl⟩
theorem bt_small {ks : List Int} {n : Int} (h : n < 1) : btO ks n = none := if_neg (by omega)
theorem bt_none {ks : List Int} {n : Int} (h : btO ks n = none) (hn : 1 ≤ n) : ∀ s ∈ rnL ks, s.sz < n := by
  unfold btO at h
  rw [if_pos hn] at h
  intro s hs
  obtain ⟨i, hi, rfl⟩ := mem_pa hs
  exact bs_none h i hi
theorem bt_some {ks : List Int} {n : Int} {s : Spn} (h : btO ks n = some s) : 1 ≤ n ∧ s ∈ rnL ks ∧ n ≤ s.sz ∧ ∀ r ∈ rnL ks, n ≤ r.sz → ¬ BtrP r s := by
  unfold btO at h
  by_cases hn : 1 ≤ n
  · rw [if_pos hn] at h
    obtain ⟨⟨i, hi, e⟩, h2, h3⟩ := bs_some h
    refine ⟨hn, e ▸ pa_mem hi, h2, fun r hr => ?_⟩
    obtain ⟨j, hj, rfl⟩ := mem_pa hr
    exact h3 j hj
  · rw [if_neg hn] at h
    cases h
/-- In rising rows the one that is not longer than those ahead, and of alike ones the first, is the best: by steps. -/
theorem bs_step_lt {ks : List Int} {z : Int} {K k : Nat} {b : Spn} (hk : k < (rnK ks K).length) (h2 : bsK z (rnK ks K) k = some b) : BtrP (pa (rnK ks K) k) b ↔ (pa (rnK ks K) k).sz < b.sz := by
  obtain ⟨⟨i, hi, rfl⟩, _, _⟩ := bs_some h2
  have := rn_order hi hk
  unfold BtrP
  omega
end Go.Proofs.YtpbljjbhfhfmgaaGreatDoor
/- Where a further object goes, and who lies in a page, in plain words; what follows. -/
namespace Go.Proofs.YtpbljjbhfhfmgaaGreatDoor
set_option maxRecDepth 100000
set_option linter.unusedVariables false
set_option linter.unusedSimpArgs false

/-- The least number below N that fits. -/
def lsX (N : Nat) (q : Nat → Bool) : Option Nat := (List.range N).find? q
theorem lsX_some {N x : Nat} {q : Nat → Bool} : lsX N q = some x ↔ x < N ∧ q x = true ∧ ∀ y, y < x → q y = false := by
  unfold lsX
  induction N with
  | zero => simp
  | succ N ih =>
    rw [List.range_succ, List.find?_append]
    cases e : (List.range N).find? q with
    | some z =>
      simp only [Option.some_or]
      rw [← e, ih]
      constructor
      · rintro ⟨h1, h2, h3⟩; exact ⟨by omega, h2, h3⟩
      · rintro ⟨h1, h2, h3⟩
        refine ⟨?_, h2, h3⟩
        have hzq := List.find?_some e
        have hzm := List.mem_range.1 (List.mem_of_find?_eq_some e)
        apply Decidable.byContradiction
        intro hn
        have := h3 z (by omega)
        rw [hzq] at this
        cases this
    | none =>
      have hno : ∀ y, y < N → q y = false := fun y hy => by
        have := List.find?_eq_none.1 e y (List.mem_range.2 hy)
        simpa using this
      simp only [Option.none_or]
      by_cases hq : q N = true
      · rw [List.find?_cons_of_pos (by exact hq)]
        constructor
        · intro h
          obtain rfl : N = x := by simpa using h
          exact ⟨by omega, hq, hno⟩
        · rintro ⟨h1, h2, h3⟩
          by_cases hx : x < N
          · rw [hno x hx] at h2; cases h2
          · obtain rfl : x = N := by omega
            rfl
      · rw [List.find?_cons_of_neg (by exact hq)]
        simp only [List.find?_nil]
        constructor
        · intro h; cases h
        · rintro ⟨h1, h2, h3⟩
          by_cases hx : x < N
          · rw [hno x hx] at h2; cases h2
          · obtain rfl : x = N := by omega
            exact (hq h2).elim
theorem lsX_none {N : Nat} {q : Nat → Bool} : lsX N q = none ↔ ∀ y, y < N → q y = false := by
  unfold lsX
  rw [List.find?_eq_none]
  constructor
  · intro h y hy
    have := h y (List.mem_range.2 hy)
    simpa using this
  · intro h y hy
    rw [h y (List.mem_range.1 hy)]
    decide

/-- A word that an object begins at. -/
def ocB (l : List Spn) (x : Int) : Bool := l.any (fun o => decide (o.pos = x))
theorem ocB_t {l : List Spn} {x : Int} (h : ∃ o ∈ l, o.pos = x) : ocB l x = true := by
  obtain ⟨o, ho, e⟩ := h
  exact List.any_eq_true.2 ⟨o, ho, by simpa using e⟩
theorem ocB_f {l : List Spn} {x : Int} (h : ∀ o ∈ l, o.pos ≠ x) : ocB l x = false := by
  refine Bool.eq_false_iff.2 fun hn => ?_
  obtain ⟨o, ho, e⟩ := List.any_eq_true.1 hn
  exact h o ho (by simpa using e)
theorem ocB_iff {l : List Spn} {x : Int} : ocB l x = true ↔ ∃ o ∈ l, o.pos = x := by
  constructor
  · intro hn
    obtain ⟨o, ho, e⟩ := List.any_eq_true.1 hn
    exact ⟨o, ho, by simpa using e⟩
  · exact ocB_t
theorem ocB_no {l : List Spn} {x : Int} (h : ocB l x = false) : ∀ o ∈ l, o.pos ≠ x := fun o ho e => by
  rw [ocB_t ⟨o, ho, e⟩] at h
  cases h
/-- A word where a cell of class c begins that is free, in a page of that class. -/
def Cd1 (l : List Spn) (c : Nat) (x : Nat) : Bool := decide (kdL l ((x / 32 : Nat) : Int) = c ∧ WhOk c ((x % 32 : Nat) : Int)) && !ocB l x
/-- The first cell of a free page. -/
def Cd2 (l : List Spn) (x : Nat) : Bool := decide (kdL l ((x / 32 : Nat) : Int) = -1 ∧ x % 32 = 4)
/-- Where a further object goes. -/
def pcS (P : Int) (l : List Spn) (n : Int) : Option Nat := match lsX (32 * P.toNat) (Cd1 l (clN n)) with
  | some x => some x
  | none => lsX (32 * P.toNat) (Cd2 l)
def pcO (P : Int) (l : List Spn) (n : Int) : Option Int :=
  if RightO P l then
    if 1 ≤ n ∧ n ≤ 120 then Option.map (fun x : Nat => (x : Int)) (pcS P l n)
    else if 120 < n ∧ n ≤ 2048 then (btO (kzN P l) (pgN n)).map (fun s => 32 * s.pos)
    else none
  else none
def pcN (P : Int) (l : List Spn) (n : Int) : Int := (pcO P l n).getD 0
def pcB (P : Int) (l : List Spn) (n : Int) : Bool := (pcO P l n).isSome
theorem pc_f {P : Int} {l : List Spn} {n : Int} (h : pcO P l n = none) : pcN P l n = 0 ∧ pcB P l n = false := by
  unfold pcN pcB; rw [h]; exact ⟨rfl, rfl⟩
theorem pc_t {P : Int} {l : List Spn} {n x : Int} (h : pcO P l n = some x) : pcN P l n = x ∧ pcB P l n = true := by
  unfold pcN pcB; rw [h]; exact ⟨rfl, rfl⟩
theorem pc_wrong {P : Int} {l : List Spn} {n : Int} (h : ¬ RightO P l) : pcO P l n = none := if_neg h
theorem pc_small {P : Int} {l : List Spn} {n : Int} (h : RightO P l) (hn : 1 ≤ n ∧ n ≤ 120) : pcO P l n = Option.map (fun x : Nat => (x : Int)) (pcS P l n) := by
  unfold pcO; rw [if_pos h, if_pos hn]
theorem pc_large {P : Int} {l : List Spn} {n : Int} (h : RightO P l) (hn : 120 < n ∧ n ≤ 2048) : pcO P l n = (btO (kzN P l) (pgN n)).map (fun s => 32 * s.pos) := by
  unfold pcO; rw [if_pos h, if_neg (by omega), if_pos hn]
theorem pc_out {P : Int} {l : List Spn} {n : Int} (hn : ¬ (1 ≤ n ∧ n ≤ 2048)) : pcO P l n = none := by
  unfold pcO
  split
  · rw [if_neg (by omega), if_neg (by omega)]
  · rfl
theorem pcS_1 {P : Int} {l : List Spn} {n : Int} {x : Nat} (h : lsX (32 * P.toNat) (Cd1 l (clN n)) = some x) : pcS P l n = some x := by unfold pcS; rw [h]
theorem pcS_2 {P : Int} {l : List Spn} {n : Int} (h : lsX (32 * P.toNat) (Cd1 l (clN n)) = none) : pcS P l n = lsX (32 * P.toNat) (Cd2 l) := by unfold pcS; rw [h]
theorem Cd1_t {l : List Spn} {c x : Nat} : Cd1 l c x = true ↔ kdL l ((x / 32 : Nat) : Int) = c ∧ WhOk c ((x % 32 : Nat) : Int) ∧ ∀ o ∈ l, o.pos ≠ x := by
  unfold Cd1
  rw [Bool.and_eq_true, decide_eq_true_eq, Bool.not_eq_true', and_assoc]
  constructor
  · rintro ⟨h1, h2, h3⟩; exact ⟨h1, h2, ocB_no h3⟩
  · rintro ⟨h1, h2, h3⟩; exact ⟨h1, h2, ocB_f h3⟩
theorem Cd2_t {l : List Spn} {x : Nat} : Cd2 l x = true ↔ kdL l ((x / 32 : Nat) : Int) = -1 ∧ x % 32 = 4 := by
  unfold Cd2
  rw [decide_eq_true_eq]
/-- The first cell of each class begins behind the head. -/
theorem whOk_4 {c : Int} (h : 0 ≤ c ∧ c < 6) : WhOk c 4 := by
  rcases (show c = 0 ∨ c = 1 ∨ c = 2 ∨ c = 3 ∨ c = 4 ∨ c = 5 by omega) with rfl | rfl | rfl | rfl | rfl | rfl <;> decide
theorem pgA_nat (x : Nat) (n : Int) : pgA ⟨x, n⟩ = ((x / 32 : Nat) : Int) := by unfold pgA; show (x : Int) / 32 = _; omega
theorem ka_kz {P : Int} {l : List Spn} {i : Nat} (h : i < P.toNat) : ka (kzN P l) i = kdL l i := kzN_at h 0

/-- With what is placed, right ones stay right, and the others' pages keep their kinds. -/
theorem places {P : Int} {l : List Spn} {n x : Int} (h : pcO P l n = some x) : RightO P l ∧ (1 ≤ n ∧ n ≤ 2048) ∧ 0 ≤ x ∧ x < 32 * P ∧ RightO P (l ++ [⟨x, n⟩]) ∧ ∀ p, kdL l p ≠ -1 → kdL (l ++ [⟨x, n⟩]) p = kdL l p := by
  by_cases hr : RightO P l
  · obtain ⟨P0, P1⟩ := hr.rng
    refine ⟨hr, ?_⟩
    by_cases hs : 1 ≤ n ∧ n ≤ 120
    · rw [pc_small hr hs] at h
      obtain ⟨X, hX, rfl⟩ : ∃ X : Nat, pcS P l n = some X ∧ (X : Int) = x := Option.map_eq_some_iff.1 h
      have hs2 : (⟨(X : Int), n⟩ : Spn).sz ≤ 120 := hs.2
      have key : X < 32 * P.toNat ∧ WhOk (clN n) ((X % 32 : Nat) : Int) ∧ (kdL l ((X / 32 : Nat) : Int) = -1 ∨ kdL l ((X / 32 : Nat) : Int) = clN n) ∧ ∀ o ∈ l, o.pos ≠ X := by
        cases e : lsX (32 * P.toNat) (Cd1 l (clN n)) with
        | some y =>
          rw [pcS_1 e] at hX
          obtain rfl : y = X := by simpa using hX
          obtain ⟨h1, h2, _⟩ := lsX_some.1 e
          obtain ⟨h3, h4, h5⟩ := Cd1_t.1 h2
          exact ⟨h1, h4, Or.inr h3, h5⟩
        | none =>
          rw [pcS_2 e] at hX
          obtain ⟨h1, h2, _⟩ := lsX_some.1 hX
          obtain ⟨h3, h4⟩ := Cd2_t.1 h2
          refine ⟨h1, ?_, Or.inl h3, fun o ho e => ?_⟩
          · rw [h4]; have := clN_lt n; exact whOk_4 ⟨by omega, by omega⟩
          · refine (kdL_neg hr).1 h3 o ho ?_
            have := (hr.lie o ho).first
            unfold pgA at this
            rw [e] at this
            rw [show ((X / 32 : Nat) : Int) = (X : Int) / 32 by omega]
            exact this
      obtain ⟨k1, k2, k3, k4⟩ := key
      have hin : InC P ⟨X, n⟩ := by
        refine Or.inl ⟨⟨hs, by show (0 : Int) ≤ X; omega, ?_⟩, by show (X : Int) / 32 < P; omega⟩
        show WhOk (clN n) ((X : Int) % 32)
        rw [show (X : Int) % 32 = ((X % 32 : Nat) : Int) by omega]
        exact k2
      have hR : RightO P (l ++ [⟨X, n⟩]) := (hr.small hs2).2 ⟨hin, by rw [pgA_nat]; exact k3, k4⟩
      refine ⟨by omega, by omega, by omega, hR, fun p hp => ?_⟩
      rw [kdL_snoc hR]
      split
      · rename_i hh
        obtain ⟨a1, a2⟩ := hh
        rw [pgK_small hs2] at a2
        have e : p = pgA ⟨X, n⟩ := by omega
        rw [kdO_small hs2]
        rw [e, pgA_nat] at hp ⊢
        rcases k3 with k3 | k3
        · exact (hp k3).elim
        · exact k3.symm
      · rfl
    · by_cases hl : 120 < n ∧ n ≤ 2048
      · rw [pc_large hr hl] at h
        obtain ⟨s, hS, rfl⟩ : ∃ s, btO (kzN P l) (pgN n) = some s ∧ 32 * s.pos = x := Option.map_eq_some_iff.1 h
        obtain ⟨b1, b2, b3, _⟩ := bt_some hS
        obtain ⟨r1, r2, r3⟩ := rn_rg (k := (kzN P l).length) (by rw [kzN_len]; omega) s b2
        rw [kzN_len] at r3
        have hn2 : ¬ (⟨32 * s.pos, n⟩ : Spn).sz ≤ 120 := by show ¬ n ≤ 120; omega
        have eA : pgA ⟨32 * s.pos, n⟩ = s.pos := by unfold pgA; show 32 * s.pos / 32 = _; omega
        have hin : InC P ⟨32 * s.pos, n⟩ := by
          refine Or.inr ⟨hl, by show 0 ≤ 32 * s.pos; omega, by show 32 * s.pos % 32 = 0; omega, ?_⟩
          show 32 * s.pos / 32 + pgN n ≤ P
          omega
        have hfree : ∀ p, HasC ⟨32 * s.pos, n⟩ p → kdL l p = -1 := fun p hp => by
          obtain ⟨a1, a2⟩ := hp
          rw [pgK_large hn2, eA] at a2
          rw [eA] at a1
          have a2' : p < s.pos + pgN n := a2
          have := rn_free b2 (p := p) a1 (by omega)
          rw [ka_kz (by omega), show ((p.toNat : Nat) : Int) = p by omega] at this
          exact this
        have hR : RightO P (l ++ [⟨32 * s.pos, n⟩]) := (hr.large hn2).2 ⟨hin, hfree⟩
        refine ⟨by omega, by omega, by omega, hR, fun p hp => ?_⟩
        rw [kdL_snoc hR]
        split
        · rename_i hh
          exact (hp (hfree p hh)).elim
        · rfl
      · rw [pc_out (by omega)] at h
        cases h
  · rw [pc_wrong hr] at h
    cases h
/-- Where no room is told, there is none. -/
theorem full {P : Int} {l : List Spn} {n : Int} (hr : RightO P l) (h : pcO P l n = none) (x : Int) : ¬ RightO P (l ++ [⟨x, n⟩]) := by
  obtain ⟨P0, P1⟩ := hr.rng
  intro hR
  obtain ⟨_, hin, _⟩ := rightO_snoc.1 hR
  by_cases hs : 1 ≤ n ∧ n ≤ 120
  · rw [pc_small hr hs] at h
    have h : pcS P l n = none := Option.map_eq_none_iff.1 h
    have hs2 : (⟨x, n⟩ : Spn).sz ≤ 120 := hs.2
    obtain ⟨_, k1, k2⟩ := (hr.small hs2).1 hR
    obtain ⟨⟨_, s1, s2⟩, s3⟩ := hin.small hs2
    have s1' : 0 ≤ x := s1
    have s2' : WhOk (clN n) (x % 32) := s2
    have s3' : x / 32 < P := s3
    cases e : lsX (32 * P.toNat) (Cd1 l (clN n)) with
    | some y => rw [pcS_1 e] at h; cases h
    | none =>
      rw [pcS_2 e] at h
      obtain ⟨X, rfl⟩ : ∃ X : Nat, (X : Int) = x := ⟨x.toNat, by omega⟩
      rw [pgA_nat] at k1
      rcases k1 with k1 | k1
      · have := lsX_none.1 h (X / 32 * 32 + 4) (by omega)
        rw [Cd2_t.2 ⟨by rw [show (X / 32 * 32 + 4) / 32 = X / 32 by omega]; exact k1, by omega⟩] at this
        cases this
      · have := lsX_none.1 e X (by omega)
        rw [Cd1_t.2 ⟨k1, by rw [show ((X % 32 : Nat) : Int) = (X : Int) % 32 by omega]; exact s2', k2⟩] at this
        cases this
  · by_cases hl : 120 < n ∧ n ≤ 2048
    · rw [pc_large hr hl] at h
      have h : btO (kzN P l) (pgN n) = none := Option.map_eq_none_iff.1 h
      have hn2 : ¬ (⟨x, n⟩ : Spn).sz ≤ 120 := by show ¬ n ≤ 120; omega
      obtain ⟨_, hf⟩ := (hr.large hn2).1 hR
      obtain ⟨g1, g2⟩ := pgN_in hl
      obtain ⟨w1, w2⟩ := hin.within
      rw [pgK_large hn2] at w2
      have w2 : pgA ⟨x, n⟩ + pgN n ≤ P := w2
      obtain ⟨s, hs1, hs2, hs3⟩ := rn_hold (ks := kzN P l) (i := (pgA ⟨x, n⟩).toNat) (m := (pgN n).toNat) (by omega) (fun j hj => by
        rw [ka_kz (by omega)]
        refine hf _ ⟨by omega, ?_⟩
        rw [pgK_large hn2]
        show _ < pgA ⟨x, n⟩ + pgN n
        omega)
      have := bt_none h g1 s hs1
      omega
    · have := hin.len
      have h1 : 1 ≤ n ∧ n ≤ 2048 := ⟨this.1, this.2.1⟩
      omega

/-- The numbers of the objects below k that have a page. -/
def mtK (l : List Spn) (p : Int) (k : Nat) : List Int := ((List.range k).filter (fun i => decide (HasC (pa l i) p))).map (fun i => ((i : Nat) : Int))
def mtL (P : Int) (l : List Spn) (p : Int) : List Int := if RightO P l then mtK l p l.length else []
theorem mt_t {P : Int} {l : List Spn} {p : Int} (h : RightO P l) : mtL P l p = mtK l p l.length := if_pos h
theorem mt_f {P : Int} {l : List Spn} {p : Int} (h : ¬ RightO P l) : mtL P l p = [] := if_neg h
theorem mt_zero (l : List Spn) (p : Int) : mtK l p 0 = [] := rfl
theorem mt_yes {l : List Spn} {p : Int} {k : Nat} (h : HasC (pa l k) p) : mtK l p (k + 1) = mtK l p k ++ [(k : Int)] := by
  unfold mtK
  rw [List.range_succ, List.filter_append, List.filter_cons_of_pos (by simpa using h)]
  simp
theorem mt_no {l : List Spn} {p : Int} {k : Nat} (h : ¬ HasC (pa l k) p) : mtK l p (k + 1) = mtK l p k := by
  unfold mtK
  rw [List.range_succ, List.filter_append, List.filter_cons_of_neg (by simpa using h)]
  simp
theorem mt_len (l : List Spn) (p : Int) (k : Nat) : (mtK l p k).length ≤ k := by
  unfold mtK
  rw [List.length_map]
  exact Nat.le_trans (List.length_filter_le _ _) (by simp)
theorem mt_mem {l : List Spn} {p : Int} {k : Nat} {x : Int} : x ∈ mtK l p k ↔ ∃ i : Nat, i < k ∧ HasC (pa l i) p ∧ x = i := by
  unfold mtK
  simp only [List.mem_map, List.mem_filter, List.mem_range, decide_eq_true_eq]
  constructor
  · rintro ⟨i, ⟨h1, h2⟩, rfl⟩; exact ⟨i, h1, h2, rfl⟩
  · rintro ⟨i, h1, h2, rfl⟩; exact ⟨i, ⟨h1, h2⟩, rfl⟩
theorem mt_rise (l : List Spn) (p : Int) (k : Nat) : (mtK l p k).Pairwise (fun a b => a < b) := by
  unfold mtK
  rw [List.pairwise_map]
  refine List.Pairwise.imp ?_ ((List.pairwise_lt_range (n := k)).filter _)
  intro a b h
  omega
end Go.Proofs.YtpbljjbhfhfmgaaGreatDoor
/- Where a further small object goes, found page by page and cell by cell. -/
namespace Go.Proofs.YtpbljjbhfhfmgaaGreatDoor
set_option maxRecDepth 100000
set_option linter.unusedVariables false
set_option linter.unusedSimpArgs false

theorem ctN_in {c k : Int} (h : CtOk c k) : 4 ≤ ctN c k ∧ ctN c k < 32 := by
  obtain ⟨w1, w2, m1, m2, f1, f2⟩ := cls_in h.cls
  rw [(ct_t h).1]
  have h1 := Int.mul_le_mul_of_nonneg_left (show k + 1 ≤ ceN c from h.2) (show 0 ≤ wdN c by omega)
  rw [Int.mul_add, Int.mul_one, Int.mul_comm (wdN c) k] at h1
  have h2 := Int.mul_nonneg h.1 (show 0 ≤ wdN c by omega)
  omega
theorem ctN_lt {c k j : Int} (h : CtOk c k) (hj : CtOk c j) (hl : ctN c j < ctN c k) : j < k := by
  obtain ⟨w1, w2, _⟩ := cls_in h.cls
  rw [(ct_t h).1, (ct_t hj).1] at hl
  apply Decidable.byContradiction
  intro hn
  have := Int.mul_le_mul_of_nonneg_right (show k ≤ j by omega) (show 0 ≤ wdN c by omega)
  omega
theorem ctN_0 {c : Int} (h : 0 ≤ c ∧ c < 6) : CtOk c 0 ∧ ctN c 0 = 4 := by
  obtain ⟨_, _, m1, _⟩ := cls_in h
  have hk : CtOk c 0 := ⟨by omega, by omega⟩
  exact ⟨hk, by rw [(ct_t hk).1]; omega⟩
/-- The word where cell k of page i begins, of class c. -/
def cwN (c : Int) (i : Nat) (k : Nat) : Int := 32 * i + ctN c k
theorem cd1_other {l : List Spn} {c i y : Nat} (h : kdL l i ≠ c) (hy : y / 32 = i) : Cd1 l c y = false := by
  refine Bool.eq_false_iff.2 fun e => ?_
  rw [Cd1_t, hy] at e
  exact h e.1
/-- A word of page i that fits is that of a free cell. -/
theorem cd1_cell {l : List Spn} {c i y : Nat} (hc : c < 6) (hy : y / 32 = i) (e : Cd1 l c y = true) : kdL l i = c ∧ ∃ k : Nat, (k : Int) < ceN c ∧ cwN c i k = y ∧ ocB l (cwN c i k) = false := by
  obtain ⟨e1, e2, e3⟩ := Cd1_t.1 e
  rw [hy] at e1
  obtain ⟨hk, he⟩ := ct_wh e2
  obtain ⟨k0, k1⟩ := hk
  have ek : ((whN c ((y % 32 : Nat) : Int)).toNat : Int) = whN c ((y % 32 : Nat) : Int) := by omega
  have ew : cwN c i (whN c ((y % 32 : Nat) : Int)).toNat = y := by
    unfold cwN
    rw [ek, he]
    omega
  refine ⟨e1, _, by rw [ek]; exact k1, ew, ?_⟩
  rw [ew]
  exact ocB_f e3
theorem cd1_done {l : List Spn} {c i y : Nat} (hc : c < 6) (h : ∀ k : Nat, (k : Int) < ceN c → ocB l (cwN c i k) = true) (hy : y / 32 = i) : Cd1 l c y = false := by
  refine Bool.eq_false_iff.2 fun e => ?_
  obtain ⟨_, k, h1, h2, h3⟩ := cd1_cell hc hy e
  rw [h k h1] at h3
  cases h3
theorem cwN_ok {c i k N : Nat} (hc : c < 6) (hk : (k : Int) < ceN c) (hi : i < N) : 0 ≤ cwN c i k ∧ cwN c i k < 32 * N ∧ (cwN c i k).toNat / 32 = i ∧ (((cwN c i k).toNat % 32 : Nat) : Int) = ctN c k := by
  have hok : CtOk (c : Int) (k : Int) := ⟨by omega, hk⟩
  obtain ⟨h1, h2⟩ := ctN_in hok
  unfold cwN
  refine ⟨by omega, by omega, by omega, by omega⟩
theorem cd1_found {l : List Spn} {c i k N : Nat} (hc : c < 6) (hi : i < N) (hk : (k : Int) < ceN c) (hd : kdL l i = c) (hf : ocB l (cwN c i k) = false)
    (hp : ∀ j, j < k → ocB l (cwN c i j) = true) (ha : ∀ y, y < 32 * i → Cd1 l c y = false) : lsX (32 * N) (Cd1 l c) = some (cwN c i k).toNat := by
  have hok : CtOk (c : Int) (k : Int) := ⟨by omega, hk⟩
  obtain ⟨a1, a2, a3, a4⟩ := cwN_ok hc hk hi
  refine lsX_some.2 ⟨by omega, ?_, fun y hy => ?_⟩
  · rw [Cd1_t, a3, a4]
    refine ⟨hd, (wh_ct hok).1, ?_⟩
    have := ocB_no hf
    rwa [show ((cwN c i k).toNat : Int) = cwN c i k by omega]
  · by_cases hyi : y / 32 = i
    · refine Bool.eq_false_iff.2 fun e => ?_
      obtain ⟨_, j, h1, h2, h3⟩ := cd1_cell hc hyi e
      have hj : CtOk (c : Int) (j : Int) := ⟨by omega, h1⟩
      have : (j : Int) < k := ctN_lt hok hj (by unfold cwN at h2 hy; omega)
      rw [hp j (by omega)] at h3
      cases h3
    · exact ha y (by omega)
theorem cd2_found {l : List Spn} {i N : Nat} (hi : i < N) (hd : kdL l i = -1) (ha : ∀ j, j < i → kdL l (j : Nat) ≠ -1) : lsX (32 * N) (Cd2 l) = some (32 * i + 4) := by
  refine lsX_some.2 ⟨by omega, ?_, fun y hy => ?_⟩
  · rw [Cd2_t, show (32 * i + 4) / 32 = i by omega]
    exact ⟨hd, by omega⟩
  · refine Bool.eq_false_iff.2 fun e => ?_
    obtain ⟨e1, e2⟩ := Cd2_t.1 e
    exact ha (y / 32) (by omega) e1
theorem cd2_none {l : List Spn} {N : Nat} (ha : ∀ j, j < N → kdL l (j : Nat) ≠ -1) : lsX (32 * N) (Cd2 l) = none := by
  refine lsX_none.2 fun y hy => ?_
  refine Bool.eq_false_iff.2 fun e => ?_
  obtain ⟨e1, e2⟩ := Cd2_t.1 e
  exact ha (y / 32) (by omega) e1
theorem pc_first {N : Nat} {l : List Spn} {n : Int} (h : RightO N l) (hn : 1 ≤ n ∧ n ≤ 120) {x : Nat} (hx : lsX (32 * N) (Cd1 l (clN n)) = some x) : pcN N l n = x ∧ pcB N l n = true := by
  refine pc_t ?_
  rw [pc_small h hn, pcS_1 (by rw [show (N : Int).toNat = N by omega]; exact hx)]
  rfl
theorem pc_second {N : Nat} {l : List Spn} {n : Int} (h : RightO N l) (hn : 1 ≤ n ∧ n ≤ 120) (h1 : lsX (32 * N) (Cd1 l (clN n)) = none) {x : Nat} (hx : lsX (32 * N) (Cd2 l) = some x) : pcN N l n = x ∧ pcB N l n = true := by
  refine pc_t ?_
  rw [pc_small h hn, pcS_2 (by rw [show (N : Int).toNat = N by omega]; exact h1), show (N : Int).toNat = N by omega, hx]
  rfl
theorem pc_nowhere {N : Nat} {l : List Spn} {n : Int} (h : RightO N l) (hn : 1 ≤ n ∧ n ≤ 120) (h1 : lsX (32 * N) (Cd1 l (clN n)) = none) (h2 : lsX (32 * N) (Cd2 l) = none) : pcN N l n = 0 ∧ pcB N l n = false := by
  refine pc_f ?_
  rw [pc_small h hn, pcS_2 (by rw [show (N : Int).toNat = N by omega]; exact h1), show (N : Int).toNat = N by omega, h2]
  rfl
theorem pc_big {P : Int} {l : List Spn} {n : Int} (h : RightO P l) (hn : 120 < n ∧ n ≤ 2048) : pcN P l n = 32 * btN (kzN P l) (pgN n) ∧ pcB P l n = btB (kzN P l) (pgN n) := by
  unfold pcN pcB
  rw [pc_large h hn]
  cases e : btO (kzN P l) (pgN n) with
  | none => rw [(btK_f e).1, (btK_f e).2]; exact ⟨rfl, rfl⟩
  | some s => rw [(btK_t e).1, (btK_t e).2]; exact ⟨rfl, rfl⟩
theorem btN_rg {P : Int} {l : List Spn} (hP : 0 ≤ P ∧ P ≤ 64) (n : Int) : 0 ≤ btN (kzN P l) n ∧ btN (kzN P l) n ≤ 64 := by
  cases e : btO (kzN P l) n with
  | none => rw [(btK_f e).1]; omega
  | some s =>
    rw [(btK_t e).1]
    obtain ⟨_, b2, _, _⟩ := bt_some e
    obtain ⟨r1, r2, r3⟩ := rn_rg (k := (kzN P l).length) (by rw [kzN_len]; omega) s b2
    rw [kzN_len] at r3
    omega
end Go.Proofs.YtpbljjbhfhfmgaaGreatDoor
/- A heap of pages as it is laid: the parts of objects, taken one by one. -/
namespace Go.Proofs.YtpbljjbhfhfmgaaGreatDoor
set_option maxRecDepth 100000
open Go.RowKit
set_option linter.unusedVariables false
set_option linter.unusedSimpArgs false

/-- The parts of a large object: page, kind, word. -/
def lgP (a : Int) (n : Nat) : List Blk := (List.range n).map (fun k : Nat => (⟨a + (k : Int), if k = 0 then 6 else 7, 0⟩ : Blk))
/-- Is a small one in a cell; a large one at a page's beginning? -/
def SmP (o : Spn) : Prop := (1 ≤ o.sz ∧ o.sz ≤ 120) ∧ WhOk (clN o.sz) (o.pos.tmod 32)
instance (o : Spn) : Decidable (SmP o) := by unfold SmP; exact inferInstance
def LgP (o : Spn) : Prop := (120 < o.sz ∧ o.sz ≤ 2048) ∧ o.pos.tmod 32 = 0
instance (o : Spn) : Decidable (LgP o) := by unfold LgP; exact inferInstance
def prO (o : Spn) : List Blk := if SmP o then [⟨o.pos.tdiv 32, clN o.sz, o.pos.tmod 32⟩] else if LgP o then lgP (o.pos.tdiv 32) (pgN o.sz).toNat else [⟨-1, 0, 0⟩]
theorem prO_s {o : Spn} (h : SmP o) : prO o = [⟨o.pos.tdiv 32, clN o.sz, o.pos.tmod 32⟩] := if_pos h
theorem LgP.not {o : Spn} (h : LgP o) : ¬ SmP o := fun c => by have := h.1; have := c.1; omega
theorem prO_l {o : Spn} (h : LgP o) : prO o = lgP (o.pos.tdiv 32) (pgN o.sz).toNat := (if_neg h.not).trans (if_pos h)
theorem prO_n {o : Spn} (h : ¬ SmP o) (h' : ¬ LgP o) : prO o = [⟨-1, 0, 0⟩] := (if_neg h).trans (if_neg h')
theorem tm32 (x : Int) : (0 ≤ x → x.tmod 32 = x % 32 ∧ x.tdiv 32 = x / 32) ∧ -32 < x.tmod 32 ∧ x.tmod 32 < 32 ∧ (0 < x.tmod 32 → 0 ≤ x) ∧ x = 32 * x.tdiv 32 + x.tmod 32 := by
  have e := Int.mul_tdiv_add_tmod x 32
  have h1 : 0 ≤ x → x.tmod 32 = x % 32 ∧ x.tdiv 32 = x / 32 := fun h => ⟨Int.tmod_eq_emod_of_nonneg h, Int.tdiv_eq_ediv_of_nonneg h⟩
  have h2 : x < 0 → x.tmod 32 ≤ 0 := fun h => by
    have := Int.tmod_nonneg (a := -x) 32 (by omega)
    rw [Int.neg_tmod] at this
    omega
  have h3 := Int.tmod_lt_of_pos x (b := 32) (by decide)
  have h4 : -32 < x.tmod 32 := by
    by_cases hx : 0 ≤ x
    · have := (h1 hx).1; omega
    · have := Int.tmod_lt_of_pos (-x) (b := 32) (by decide)
      rw [Int.neg_tmod] at this
      omega
  exact ⟨h1, h4, h3, fun h => Decidable.byContradiction fun c => by have := h2 (by omega); omega, by omega⟩
theorem SmP.pos {o : Spn} (h : SmP o) : 0 ≤ o.pos ∧ 4 ≤ o.pos % 32 ∧ o.pos.tmod 32 = o.pos % 32 ∧ o.pos.tdiv 32 = o.pos / 32 := by
  have h4 := h.2.1
  obtain ⟨a, b, c, d, e⟩ := tm32 o.pos
  have := d (by omega)
  obtain ⟨x, y⟩ := a this
  exact ⟨this, by omega, x, y⟩
theorem smP_iff {o : Spn} : SmP o ↔ SmC o := by
  constructor
  · intro h
    obtain ⟨a, b, c, d⟩ := h.pos
    exact ⟨h.1, a, by rw [← c]; exact h.2⟩
  · rintro ⟨h1, h2, h3⟩
    exact ⟨h1, by rw [((tm32 o.pos).1 h2).1]; exact h3⟩
theorem InC.smP {P : Int} {o : Spn} (h : InC P o) (hs : o.sz ≤ 120) : SmP o := smP_iff.2 (h.small hs).1
theorem InC.lgP {P : Int} {o : Spn} (h : InC P o) (hs : ¬ o.sz ≤ 120) : LgP o := by
  obtain ⟨h1, h2, h3, _⟩ := h.large hs
  exact ⟨h1, by rw [((tm32 o.pos).1 h2).1]; exact h3⟩
/-- Each part's word is one of a page's; its numbers are in the bounds. -/
theorem prO_ok {o : Spn} (ho : Rg o.pos) : ∀ p ∈ prO o, (0 ≤ p.ix ∧ p.ix < 32) ∧ RgB p := by
  intro p hp
  obtain ⟨a, b, c, d, e⟩ := tm32 o.pos
  unfold Rg at ho
  by_cases hs : SmP o
  · rw [prO_s hs, List.mem_singleton] at hp
    have := hs.2.1
    have := clN_lt o.sz
    subst hp
    refine ⟨by simp only; omega, ?_, ?_, ?_⟩ <;> unfold Rg <;> simp only <;> omega
  · by_cases hl : LgP o
    · rw [prO_l hl, lgP, List.mem_map] at hp
      obtain ⟨k, hk, rfl⟩ := hp
      rw [List.mem_range] at hk
      have := pgN_in hl.1
      refine ⟨by simp only; omega, ?_, ?_, ?_⟩ <;> unfold Rg <;> simp only <;> (try split) <;> omega
    · rw [prO_n hs hl, List.mem_singleton] at hp
      subst hp
      refine ⟨by simp only; omega, ?_, ?_, ?_⟩ <;> unfold Rg <;> simp only <;> omega

/-- Pages: each one's kind, and which of its words are taken. -/
structure HpS where
  kd : Nat → Int
  tk : Nat → Nat → Bool
def hp0 : HpS := ⟨fun _ => -1, fun _ _ => false⟩
def HpS.put (s : HpS) (p : Blk) : HpS := ⟨fun i => if i = p.pos.toNat then p.sz else s.kd i, fun i j => if i = p.pos.toNat ∧ j = p.ix.toNat then true else s.tk i j⟩
def HpOk (N : Nat) (s : HpS) (p : Blk) : Prop := (0 ≤ p.pos ∧ p.pos < N) ∧ (s.kd p.pos.toNat = -1 ∨ s.kd p.pos.toNat = p.sz) ∧ s.tk p.pos.toNat p.ix.toNat = false
instance (N : Nat) (s : HpS) (p : Blk) : Decidable (HpOk N s p) := by unfold HpOk; exact inferInstance
def hpRun (N : Nat) : HpS → List Blk → Option HpS
  | s, [] => some s
  | s, p :: r => if HpOk N s p then hpRun N (s.put p) r else none
theorem hpRun_t {N : Nat} {s : HpS} {p : Blk} {r : List Blk} (h : HpOk N s p) : hpRun N s (p :: r) = hpRun N (s.put p) r := if_pos h
theorem hpRun_f {N : Nat} {s : HpS} {p : Blk} {r : List Blk} (h : ¬ HpOk N s p) : hpRun N s (p :: r) = none := if_neg h
theorem hpRun_append (N : Nat) (a b : List Blk) : ∀ s, hpRun N s (a ++ b) = (hpRun N s a).bind (fun s' => hpRun N s' b) := by
  induction a with
  | nil => intro s; rfl
  | cons p r ih =>
    intro s
    rw [List.cons_append]
    by_cases h : HpOk N s p
    · rw [hpRun_t h, hpRun_t h, ih]
    · rw [hpRun_f h, hpRun_f h]; rfl
theorem hpRun_more {N : Nat} {s s' : HpS} {a : List Blk} {p : Blk} (h : hpRun N s a = some s') (hp : HpOk N s' p) : hpRun N s (a ++ [p]) = some (s'.put p) := by
  rw [hpRun_append, h]
  exact hpRun_t hp
theorem hpRun_ends {N : Nat} {s s' : HpS} {a r : List Blk} {p : Blk} (h : hpRun N s a = some s') (hp : ¬ HpOk N s' p) : hpRun N s (a ++ p :: r) = none := by
  rw [hpRun_append, h]
  exact hpRun_f hp
/-- An object's word. -/
def wdO (o : Spn) : Int := if o.sz ≤ 120 then o.pos % 32 else 0
/-- What the pages are once objects are laid. -/
structure HpI (N : Nat) (l : List Spn) (s : HpS) : Prop where
  kd : ∀ i : Nat, i < N → s.kd i = kdL l i
  tk : ∀ i j : Nat, s.tk i j = true ↔ ∃ o ∈ l, HasC o i ∧ wdO o = j
theorem HpI.no {N : Nat} {l : List Spn} {s : HpS} (h : HpI N l s) {i j : Nat} (hn : ∀ o ∈ l, HasC o i → wdO o ≠ j) : s.tk i j = false := by
  cases e : s.tk i j with
  | false => rfl
  | true => obtain ⟨o, h1, h2, h3⟩ := (h.tk i j).1 e; exact absurd h3 (hn o h1 h2)
theorem hpI_zero (N : Nat) : HpI N [] hp0 := ⟨fun i hi => rfl, fun i j => ⟨fun h => (by cases h), fun ⟨o, h, _⟩ => (List.not_mem_nil h).elim⟩⟩
theorem HpI.put {N : Nat} {l : List Spn} {o : Spn} {s : HpS} (h : HpI N l s) (hr : RightO N (l ++ [o])) (hs : o.sz ≤ 120) : HpI N (l ++ [o]) (s.put ⟨pgA o, clN o.sz, o.pos % 32⟩) := by
  have hin : InC N o := (rightO_snoc.1 hr).2.1
  have hp := hin.within
  have h0 := hin.len
  have hK := pgK_small hs
  refine ⟨fun i hi => ?_, fun i j => ?_⟩
  · rw [kdL_snoc hr]
    simp only [HpS.put]
    by_cases e : i = (pgA o).toNat
    · rw [if_pos e, if_pos ⟨by omega, by omega⟩, kdO_small hs]
    · rw [if_neg e, if_neg (fun c : HasC o i => by obtain ⟨c1, c2⟩ := c; omega), h.kd i hi]
  · simp only [HpS.put]
    have hw : wdO o = o.pos % 32 := if_pos hs
    by_cases e : i = (pgA o).toNat ∧ j = (o.pos % 32).toNat
    · rw [if_pos e]
      exact ⟨fun _ => ⟨o, by simp, ⟨by omega, by omega⟩, by rw [hw]; omega⟩, fun _ => rfl⟩
    · rw [if_neg e, h.tk]
      constructor
      · rintro ⟨a, h1, h2⟩; exact ⟨a, by simp [h1], h2⟩
      · rintro ⟨a, h1, h2, h3⟩
        rcases List.mem_append.1 h1 with h1 | h1
        · exact ⟨a, h1, h2, h3⟩
        · rw [List.mem_singleton] at h1
          subst h1
          obtain ⟨c1, c2⟩ := h2
          rw [hw] at h3
          exact absurd ⟨by omega, by omega⟩ e
theorem hp_small_free {N : Nat} {l : List Spn} {o : Spn} {s : HpS} (hr : RightO N l) (h : HpI N l s) (ho : SmP o) (hp : 0 ≤ pgA o ∧ pgA o < N) (hk : kdL l (pgA o) = -1 ∨ kdL l (pgA o) = clN o.sz) :
    s.tk (pgA o).toNat (o.pos % 32).toNat = false ↔ ∀ a ∈ l, a.pos ≠ o.pos := by
  obtain ⟨q0, q1, q2, q3⟩ := ho.pos
  have hle := ho.1.2
  have hc : ((pgA o).toNat : Int) = pgA o := by omega
  constructor
  · intro hf a ha e
    have hin := hr.lie a ha
    have hw := hin.within
    have hg := hin.pgk
    have hA : pgA a = pgA o := by unfold pgA; rw [e]
    have hH : HasC a ((pgA o).toNat : Int) := ⟨by omega, by omega⟩
    have : s.tk (pgA o).toNat (o.pos % 32).toNat = true := by
      rw [h.tk]
      refine ⟨a, ha, hH, ?_⟩
      have hkd := kdL_has hr ha hH
      have hsm : a.sz ≤ 120 := by
        by_cases hsm : a.sz ≤ 120
        · exact hsm
        · have := (hin.large hsm).2.2.1
          rw [e] at this
          omega
      unfold wdO
      rw [if_pos hsm, e]
      omega
    rw [this] at hf
    cases hf
  · intro hn
    refine h.no fun a ha hH hw => hn a ha ?_
    have hkd := kdL_has hr ha hH
    rw [hc] at hkd hH
    have hsm : a.sz ≤ 120 := by
      rcases hk with hk | hk
      · have := (kdO_nn a (pgA o)).1; omega
      · rw [← kdO_lt (p := pgA o), ← hkd, hk]
        have := clN_lt o.sz
        omega
    unfold wdO at hw
    rw [if_pos hsm] at hw
    obtain ⟨c1, c2⟩ := hH
    rw [pgK_small hsm] at c2
    unfold pgA at c1 c2
    omega
theorem small_step {N : Nat} {l : List Spn} {o : Spn} {s : HpS} (hr : RightO N l) (h : HpI N l s) (ho : SmP o) : HpOk N s ⟨o.pos.tdiv 32, clN o.sz, o.pos.tmod 32⟩ ↔ RightO N (l ++ [o]) := by
  obtain ⟨q0, q1, q2, q3⟩ := ho.pos
  have hA : pgA o = o.pos / 32 := rfl
  rw [hr.small ho.1.2, q2, q3, ← hA]
  unfold HpOk
  simp only
  constructor
  · rintro ⟨h1, h2, h3⟩
    rw [h.kd _ (by omega), Int.toNat_of_nonneg h1.1] at h2
    exact ⟨.inl ⟨smP_iff.1 ho, h1.2⟩, h2, (hp_small_free hr h ho h1 h2).1 h3⟩
  · rintro ⟨h1, h2, h3⟩
    have hp : 0 ≤ pgA o ∧ pgA o < N := by have := (h1.small ho.1.2).2; have := h1.within; omega
    refine ⟨hp, ?_, (hp_small_free hr h ho hp h2).2 h3⟩
    rw [h.kd _ (by omega), Int.toNat_of_nonneg hp.1]
    exact h2
/-- Some parts of a large one laid. -/
def HpS.big (s : HpS) (a : Nat) (k : Nat) : HpS := ⟨fun i => if a ≤ i ∧ i < a + k then (if i = a then 6 else 7) else s.kd i, fun i j => if (a ≤ i ∧ i < a + k) ∧ j = 0 then true else s.tk i j⟩
theorem big_zero (s : HpS) (a : Nat) : s.big a 0 = s := by
  unfold HpS.big
  cases s with
  | mk kd tk =>
    congr 1
    · funext i; rw [if_neg (by omega)]
    · funext i j; rw [if_neg (by omega)]
theorem big_put (s : HpS) (a k : Nat) : (s.big a k).put ⟨(a : Int) + (k : Int), if k = 0 then 6 else 7, 0⟩ = s.big a (k + 1) := by
  have e : ((a : Int) + (k : Int)).toNat = a + k := by omega
  unfold HpS.big HpS.put
  simp only [e, Int.toNat_zero]
  congr 1
  · funext i
    repeat' split
    all_goals first | rfl | omega
  · funext i j
    repeat' split
    all_goals first | rfl | omega
theorem lgP_succ (a : Int) (n : Nat) : lgP a (n + 1) = lgP a n ++ [⟨a + (n : Int), if n = 0 then 6 else 7, 0⟩] := by simp [lgP, List.range_succ]
theorem lgP_split (a : Int) {k n : Nat} (h : k < n) : ∃ r, lgP a n = lgP a k ++ ⟨a + (k : Int), if k = 0 then 6 else 7, 0⟩ :: r := by
  induction n with
  | zero => omega
  | succ n ih =>
    rw [lgP_succ]
    by_cases e : k = n
    · subst e; exact ⟨[], rfl⟩
    · obtain ⟨r, hr⟩ := ih (by omega)
      exact ⟨r ++ [⟨a + (n : Int), if n = 0 then 6 else 7, 0⟩], by rw [hr]; simp⟩
theorem big_run {N : Nat} {s : HpS} {a : Nat} {k : Nat} (hk : ∀ j, j < k → a + j < N ∧ s.kd (a + j) = -1 ∧ s.tk (a + j) 0 = false) : hpRun N s (lgP (a : Int) k) = some (s.big a k) := by
  induction k with
  | zero => rw [big_zero]; rfl
  | succ k ih =>
    rw [lgP_succ, hpRun_more (ih (fun j hj => hk j (by omega))) ?_, big_put]
    obtain ⟨h1, h2, h3⟩ := hk k (by omega)
    have e : ((a : Int) + (k : Int)).toNat = a + k := by omega
    unfold HpOk HpS.big
    simp only [e]
    refine ⟨by omega, .inl ?_, ?_⟩
    · rw [if_neg (by omega)]; exact h2
    · rw [if_neg (by omega)]; exact h3
/-- A page that has a kind of a large one has its first word taken. -/
theorem large_free {N : Nat} {l : List Spn} {s : HpS} (hr : RightO N l) (h : HpI N l s) {i : Nat} (hi : i < N) {v : Int} (hv : v = 6 ∨ v = 7) : (s.kd i = -1 ∨ s.kd i = v) ∧ s.tk i 0 = false ↔ kdL l i = -1 := by
  rw [h.kd i hi]
  constructor
  · rintro ⟨h1 | h1, h2⟩
    · exact h1
    · obtain ⟨o, ho, hH, e⟩ := kdL_find (l := l) (p := i) (by omega)
      have hbig : ¬ o.sz ≤ 120 := fun c => by have := kdO_lt (o := o) (p := (i : Int)); have := this.2 c; omega
      have : s.tk i 0 = true := (h.tk i 0).2 ⟨o, ho, hH, by unfold wdO; rw [if_neg hbig]; rfl⟩
      rw [this] at h2
      cases h2
  · intro h1
    exact ⟨.inl h1, h.no fun o ho hH => absurd hH ((kdL_neg hr).1 h1 o ho)⟩
theorem large_in {N : Nat} {o : Spn} (ho : LgP o) : InC N o ↔ 0 ≤ o.pos ∧ o.pos / 32 + pgN o.sz ≤ N := by
  constructor
  · intro h
    obtain ⟨_, h1, _, h2⟩ := h.large (by have := ho.1; omega)
    exact ⟨h1, h2⟩
  · rintro ⟨h1, h2⟩
    exact .inr ⟨ho.1, h1, by rw [← ((tm32 o.pos).1 h1).1]; exact ho.2, h2⟩
theorem hp_step {N : Nat} {l : List Spn} {o : Spn} {s : HpS} (hr : RightO N l) (h : HpI N l s) :
    (RightO N (l ++ [o]) → ∃ s', hpRun N s (prO o) = some s' ∧ HpI N (l ++ [o]) s') ∧ (¬ RightO N (l ++ [o]) → hpRun N s (prO o) = none) := by
  by_cases hs : SmP o
  · rw [prO_s hs]
    have hk := small_step hr h hs
    obtain ⟨q0, q1, q2, q3⟩ := hs.pos
    refine ⟨fun hR => ⟨_, hpRun_t (hk.2 hR), ?_⟩, fun hR => hpRun_f (fun c => hR (hk.1 c))⟩
    rw [q2, q3]
    exact h.put hR hs.1.2
  · by_cases hl : LgP o
    · rw [prO_l hl]
      have hbig : ¬ o.sz ≤ 120 := by have := hl.1; omega
      have hpg := pgN_in hl.1
      obtain ⟨t1, t2, t3, t4, t5⟩ := tm32 o.pos
      have ht0 := hl.2
      have hK : pgK o = pgN o.sz := pgK_large hbig
      refine ⟨fun hR => ?_, fun hR => ?_⟩
      · have hin : InC N o := (rightO_snoc.1 hR).2.1
        obtain ⟨i1, i2⟩ := (large_in hl).1 hin
        have hfree := ((hr.large hbig).1 hR).2
        obtain ⟨a, ha⟩ : ∃ a : Nat, o.pos.tdiv 32 = a := ⟨(o.pos.tdiv 32).toNat, by have := (t1 i1).2; omega⟩
        have hA : pgA o = a := by unfold pgA; rw [← ha, (t1 i1).2]
        have hd := (t1 i1).2
        rw [ha]
        refine ⟨_, big_run (fun j hj => ?_), ?_⟩
        · have hlt : a + j < N := by omega
          have hH : HasC o ((a + j : Nat) : Int) := ⟨by omega, by omega⟩
          have e1 := hfree _ hH
          exact ⟨hlt, by rw [h.kd _ hlt]; exact e1, ((large_free hr h hlt (v := 6) (.inl rfl)).2 e1).2⟩
        · refine ⟨fun i hi => ?_, fun i j => ?_⟩
          · rw [kdL_snoc hR]
            simp only [HpS.big]
            by_cases c : HasC o i
            · rw [if_pos c]
              obtain ⟨c1, c2⟩ := c
              rw [if_pos (by omega), kdO_large hbig, hA]
              by_cases e : i = a
              · rw [if_pos e, if_pos (by omega)]
              · rw [if_neg e, if_neg (by omega)]
            · rw [if_neg c, if_neg (fun e => c ⟨by omega, by omega⟩)]
              exact h.kd i hi
          · simp only [HpS.big]
            have hw : wdO o = 0 := if_neg hbig
            by_cases e : (a ≤ i ∧ i < a + (pgN o.sz).toNat) ∧ j = 0
            · rw [if_pos e]
              exact ⟨fun _ => ⟨o, by simp, ⟨by omega, by omega⟩, by rw [hw]; omega⟩, fun _ => rfl⟩
            · rw [if_neg e, h.tk]
              constructor
              · rintro ⟨x, h1, h2⟩; exact ⟨x, by simp [h1], h2⟩
              · rintro ⟨x, h1, h2, h3⟩
                rcases List.mem_append.1 h1 with h1 | h1
                · exact ⟨x, h1, h2, h3⟩
                · rw [List.mem_singleton] at h1
                  subst h1
                  obtain ⟨c1, c2⟩ := h2
                  rw [hw] at h3
                  exact absurd ⟨⟨by omega, by omega⟩, by omega⟩ e
      · -- the first part that cannot be had
        have hbad : ∃ k : Nat, k < (pgN o.sz).toNat ∧ ¬ ((0 ≤ o.pos.tdiv 32 + (k : Int) ∧ o.pos.tdiv 32 + (k : Int) < N) ∧ kdL l (o.pos.tdiv 32 + (k : Int)) = -1) := by
          refine Decidable.byContradiction fun hn => hR ?_
          have hn' : ∀ k : Nat, k < (pgN o.sz).toNat → (0 ≤ o.pos.tdiv 32 + (k : Int) ∧ o.pos.tdiv 32 + (k : Int) < N) ∧ kdL l (o.pos.tdiv 32 + (k : Int)) = -1 := fun k hk => Decidable.byContradiction fun c => hn ⟨k, hk, c⟩
          have e0 := hn' 0 (by omega)
          have e1 := hn' ((pgN o.sz).toNat - 1) (by omega)
          have hp0 : 0 ≤ o.pos := by omega
          have hd := (t1 hp0).2
          have hin : InC N o := (large_in hl).2 ⟨hp0, by omega⟩
          refine (hr.large hbig).2 ⟨hin, fun p hp => ?_⟩
          obtain ⟨c1, c2⟩ := hp
          have hA : pgA o = o.pos / 32 := rfl
          have := (hn' (p - pgA o).toNat (by omega)).2
          rwa [show o.pos.tdiv 32 + (((p - pgA o).toNat : Nat) : Int) = p by omega] at this
        obtain ⟨k, hk, hkb, hfirst⟩ : ∃ k : Nat, k < (pgN o.sz).toNat ∧ ¬ ((0 ≤ o.pos.tdiv 32 + (k : Int) ∧ o.pos.tdiv 32 + (k : Int) < N) ∧ kdL l (o.pos.tdiv 32 + (k : Int)) = -1) ∧ ∀ j : Nat, j < k → ((0 ≤ o.pos.tdiv 32 + (j : Int) ∧ o.pos.tdiv 32 + (j : Int) < N) ∧ kdL l (o.pos.tdiv 32 + (j : Int)) = -1) := by
          obtain ⟨k, hk, hkb⟩ := hbad
          induction k using Nat.strongRecOn with
          | ind k ih =>
            by_cases hx : ∀ j : Nat, j < k → ((0 ≤ o.pos.tdiv 32 + (j : Int) ∧ o.pos.tdiv 32 + (j : Int) < N) ∧ kdL l (o.pos.tdiv 32 + (j : Int)) = -1)
            · exact ⟨k, hk, hkb, hx⟩
            · obtain ⟨j, hj⟩ := Classical.not_forall.1 hx
              obtain ⟨hjk, hjb⟩ := Classical.not_imp.1 hj
              exact ih j hjk (by omega) hjb
        obtain ⟨r, hspl⟩ := lgP_split (o.pos.tdiv 32) hk
        rw [hspl]
        by_cases hneg : 0 ≤ o.pos.tdiv 32
        · obtain ⟨a, ha⟩ : ∃ a : Nat, o.pos.tdiv 32 = a := ⟨(o.pos.tdiv 32).toNat, by omega⟩
          rw [ha] at hkb hfirst ⊢
          refine hpRun_ends (big_run (fun j hj => ?_)) (fun c => ?_)
          · obtain ⟨f1, f2⟩ := hfirst j hj
            have hlt : a + j < N := by omega
            have e1 : kdL l ((a + j : Nat) : Int) = -1 := by rw [← f2]; congr 1
            exact ⟨hlt, by rw [h.kd _ hlt]; exact e1, ((large_free hr h hlt (v := 6) (.inl rfl)).2 e1).2⟩
          · obtain ⟨c1, c2, c3⟩ := c
            simp only at c1 c2 c3
            have e : ((a : Int) + (k : Int)).toNat = a + k := by omega
            simp only [e, HpS.big] at c2 c3
            rw [if_neg (by omega)] at c2 c3
            have hlt : a + k < N := by omega
            refine hkb ⟨c1, ?_⟩
            have := (large_free hr h hlt (v := if k = 0 then 6 else 7) (by split <;> simp)).1 ⟨c2, c3⟩
            rw [← this]; congr 1
        · have hk0 : k = 0 := by
            refine Decidable.byContradiction fun hk0 => ?_
            have := (hfirst 0 (by omega)).1
            omega
          subst hk0
          exact hpRun_f (fun c => by have := c.1.1; simp only at this; omega)
    · rw [prO_n hs hl]
      refine ⟨fun hR => ?_, fun _ => hpRun_f (fun c => by have := c.1.1; simp only at this; omega)⟩
      have hin : InC N o := (rightO_snoc.1 hR).2.1
      by_cases hc : o.sz ≤ 120
      · exact absurd (hin.smP hc) hs
      · exact absurd (hin.lgP hc) hl
/-- All parts. -/
def ptL (l : List Spn) : List Blk := l.flatMap prO
theorem prL_snoc (l : List Spn) (o : Spn) : ptL (l ++ [o]) = ptL l ++ prO o := by simp [ptL]
theorem hp_ind {motive : List Spn → Prop} (nil : motive []) (snoc : ∀ W x, motive W → motive (W ++ [x])) (W : List Spn) : motive W := by
  have h : ∀ n (W : List Spn), W.length = n → motive W := by
    intro n
    induction n with
    | zero => intro W hW; rw [List.eq_nil_of_length_eq_zero hW]; exact nil
    | succ n ih =>
      intro W hW
      have hne : W ≠ [] := fun e => by rw [e] at hW; cases hW
      rw [← List.dropLast_concat_getLast hne]
      exact snoc _ _ (ih _ (by rw [List.length_dropLast]; omega))
  exact h _ W rfl
theorem hp_all {N : Nat} (hN : N ≤ 64) (l : List Spn) : (RightO N l → ∃ s, hpRun N hp0 (ptL l) = some s ∧ HpI N l s) ∧ (¬ RightO N l → hpRun N hp0 (ptL l) = none) := by
  induction l using hp_ind with
  | nil => exact ⟨fun _ => ⟨hp0, rfl, hpI_zero N⟩, fun h => absurd (RightO.nil ⟨by omega, by omega⟩) h⟩
  | snoc l o ih =>
    rw [prL_snoc, hpRun_append]
    by_cases hr : RightO N l
    · obtain ⟨s, e, hs⟩ := ih.1 hr
      rw [e]
      exact hp_step hr hs
    · rw [ih.2 hr]
      exact ⟨fun h => absurd (rightO_snoc.1 h).1 hr, fun _ => rfl⟩
/-- The parts, with the numbers of their objects. -/
def prK (l : List Spn) (k : Nat) : List (Nat × Blk) := (List.range k).flatMap (fun i => (prO (pa l i)).map (fun p => (i, p)))
theorem prK_succ (l : List Spn) (k : Nat) : prK l (k + 1) = prK l k ++ (prO (pa l k)).map (fun p => (k, p)) := by simp [prK, List.range_succ]
theorem prK_snd (l : List Spn) {k : Nat} (hk : k ≤ l.length) : (prK l k).map (·.2) = ptL (l.take k) := by
  induction k with
  | zero => rfl
  | succ k ih =>
    rw [prK_succ, List.map_append, ih (by omega), take_pa (by omega), prL_snoc, List.map_map]
    congr 1
    simp [Function.comp_def]
theorem prK_mem {l : List Spn} {k : Nat} {q : Nat × Blk} (h : q ∈ prK l k) : q.1 < k ∧ q.2 ∈ prO (pa l q.1) := by
  simp only [prK, List.mem_flatMap, List.mem_range, List.mem_map] at h
  obtain ⟨i, hi, p, hp, rfl⟩ := h
  exact ⟨hi, hp⟩
/-- The objects of a page, part by part. -/
def mtQ (pg : Int) (q : List (Nat × Blk)) : List Int := (q.filter (fun x => decide (x.2.pos = pg))).map (fun x => ((x.1 : Nat) : Int))
theorem mtQ_yes {pg : Int} {q : List (Nat × Blk)} {x : Nat × Blk} (h : x.2.pos = pg) : mtQ pg (q ++ [x]) = mtQ pg q ++ [(x.1 : Int)] := by simp [mtQ, h]
theorem mtQ_no {pg : Int} {q : List (Nat × Blk)} {x : Nat × Blk} (h : ¬ x.2.pos = pg) : mtQ pg (q ++ [x]) = mtQ pg q := by simp [mtQ, h]
theorem mtQ_len (pg : Int) (q : List (Nat × Blk)) : (mtQ pg q).length ≤ q.length := by
  simp only [mtQ, List.length_map]
  exact List.length_filter_le _ _
theorem mtQ_append (pg : Int) (a b : List (Nat × Blk)) : mtQ pg (a ++ b) = mtQ pg a ++ mtQ pg b := by simp [mtQ]
theorem mtQ_large (pg a : Int) (i n : Nat) : mtQ pg ((lgP a n).map (fun p => (i, p))) = if a ≤ pg ∧ pg < a + n then [(i : Int)] else [] := by
  induction n with
  | zero => rw [if_neg (by omega)]; rfl
  | succ n ih =>
    rw [lgP_succ, List.map_append, mtQ_append, ih]
    by_cases e : a + (n : Int) = pg
    · have e1 : (if a ≤ pg ∧ pg < a + (n : Int) then [(i : Int)] else []) = [] := if_neg (by omega)
      have e2 : (if a ≤ pg ∧ pg < a + ((n + 1 : Nat) : Int) then [(i : Int)] else []) = [(i : Int)] := if_pos (by omega)
      rw [e1, e2]
      simp [mtQ, e]
    · have : mtQ pg ([(⟨a + (n : Int), if n = 0 then 6 else 7, 0⟩ : Blk)].map (fun p => (i, p))) = [] := by simp [mtQ, e]
      rw [this, List.append_nil]
      by_cases h : a ≤ pg ∧ pg < a + n
      · rw [if_pos h, if_pos (by omega)]
      · rw [if_neg h, if_neg (by omega)]
theorem mtQ_all {P : Int} {l : List Spn} (hr : RightO P l) (pg : Int) {k : Nat} (hk : k ≤ l.length) : mtQ pg (prK l k) = mtK l pg k := by
  induction k with
  | zero => rfl
  | succ k ih =>
    rw [prK_succ, mtQ_append, ih (by omega)]
    have hin := hr.lie _ (pa_mem (show k < l.length by omega))
    have h0 := hin.len
    obtain ⟨t1, _⟩ := tm32 (pa l k).pos
    have hA : pgA (pa l k) = (pa l k).pos / 32 := rfl
    have hd := (t1 h0.2.2).2
    have key : mtQ pg ((prO (pa l k)).map (fun p => (k, p))) = if HasC (pa l k) pg then [(k : Int)] else [] := by
      by_cases hs : (pa l k).sz ≤ 120
      · rw [prO_s (hin.smP hs)]
        have hK := pgK_small hs
        by_cases c : HasC (pa l k) pg
        · rw [if_pos c]
          have e : (pa l k).pos.tdiv 32 = pg := by unfold HasC at c; omega
          simp [mtQ, e]
        · rw [if_neg c]
          have e : ¬ (pa l k).pos.tdiv 32 = pg := fun e => c (by unfold HasC; omega)
          simp [mtQ, e]
      · rw [prO_l (hin.lgP hs), mtQ_large]
        have hK := pgK_large hs
        have hp := pgN_in (hin.lgP hs).1
        by_cases c : HasC (pa l k) pg
        · rw [if_pos c, if_pos (by unfold HasC at c; omega)]
        · rw [if_neg c, if_neg (fun e => c (by unfold HasC; omega))]
    rw [key]
    by_cases c : HasC (pa l k) pg
    · rw [if_pos c, mt_yes c]
    · rw [if_neg c, mt_no c, List.append_nil]
end Go.Proofs.YtpbljjbhfhfmgaaGreatDoor
/- The kinds of pages as a row that is laid object by object. -/
namespace Go.Proofs.YtpbljjbhfhfmgaaGreatDoor
set_option maxRecDepth 100000
set_option linter.unusedVariables false
set_option linter.unusedSimpArgs false

theorem map_range_set (N : Nat) (f : Nat → Int) (i : Nat) (v : Int) : ((List.range N).map f).set i v = (List.range N).map (fun p => if p = i then v else f p) := by
  apply List.ext_getElem
  · simp
  · intro k h1 h2
    simp only [List.length_set, List.length_map, List.length_range] at h1
    rw [List.getElem_set]
    simp only [List.getElem_map, List.getElem_range]
    by_cases e : i = k
    · subst e; simp
    · rw [if_neg e, if_neg (fun h => e h.symm)]
theorem map_range_eq {N : Nat} {f g : Nat → Int} (h : ∀ i, i < N → f i = g i) : (List.range N).map f = (List.range N).map g :=
  List.map_congr_left fun i hi => h i (List.mem_range.1 hi)
/-- A row of pages of which the first k are free yet, the others 0. -/
def fpL (N k : Nat) : List Int := (List.range N).map (fun p => if p < k then -1 else 0)
theorem frL_zero (N : Nat) : fpL N 0 = List.replicate N 0 := by
  apply List.ext_getElem
  · simp [fpL]
  · intro i h1 h2
    simp [fpL]
theorem frL_set (N k : Nat) : (fpL N k).set k (-1) = fpL N (k + 1) := by
  unfold fpL
  rw [map_range_set]
  refine map_range_eq fun i hi => ?_
  by_cases e : i = k
  · rw [if_pos e, if_pos (by omega)]
  · rw [if_neg e]
    by_cases h : i < k
    · rw [if_pos h, if_pos (by omega)]
    · rw [if_neg h, if_neg (by omega)]
theorem frL_all (P : Int) : fpL P.toNat P.toNat = kzN P [] := by
  unfold fpL kzN
  refine map_range_eq fun i hi => ?_
  rw [if_pos hi]
  rfl
theorem kzN_small {P : Int} {l : List Spn} {o : Spn} (h : RightO P (l ++ [o])) (hs : o.sz ≤ 120) : kzN P (l ++ [o]) = (kzN P l).set (pgA o).toNat (clN o.sz) := by
  have hw := (rightO_snoc.1 h).2.1.within
  unfold kzN
  rw [map_range_set]
  refine map_range_eq fun i hi => ?_
  rw [kdL_snoc h]
  by_cases e : i = (pgA o).toNat
  · rw [if_pos e, if_pos ⟨by omega, by rw [pgK_small hs]; omega⟩, kdO_small hs]
  · rw [if_neg e, if_neg (fun c => by obtain ⟨c1, c2⟩ := c; rw [pgK_small hs] at c2; omega)]
/-- A large one's first j pages laid. -/
def lgL (P : Int) (l : List Spn) (a : Nat) (j : Nat) : List Int := (List.range P.toNat).map (fun p => if a ≤ p ∧ p < a + j then 7 else kdL l (p : Nat))
theorem lgL_zero (P : Int) (l : List Spn) (a : Nat) : lgL P l a 0 = kzN P l := by
  unfold lgL kzN
  refine map_range_eq fun i hi => ?_
  rw [if_neg (by omega)]
theorem lgL_len (P : Int) (l : List Spn) (a j : Nat) : (lgL P l a j).length = P.toNat := by simp [lgL]
theorem lgL_set (P : Int) (l : List Spn) (a j : Nat) : (lgL P l a j).set (a + j) 7 = lgL P l a (j + 1) := by
  unfold lgL
  rw [map_range_set]
  refine map_range_eq fun i hi => ?_
  by_cases e : i = a + j
  · rw [if_pos e, if_pos (by omega)]
  · rw [if_neg e]
    by_cases h : a ≤ i ∧ i < a + j
    · rw [if_pos h, if_pos (by omega)]
    · rw [if_neg h, if_neg (by omega)]
theorem lgL_at {P : Int} {l : List Spn} {a j : Nat} (h : a + j < P.toNat) (d : Int) : (lgL P l a j).getD (a + j) d = kdL l ((a + j : Nat) : Int) := by
  simp only [lgL, List.getD, List.getElem?_map, List.getElem?_range h, Option.map_some, Option.getD_some]
  rw [if_neg (by omega)]
theorem kzN_large {P : Int} {l : List Spn} {o : Spn} (h : RightO P (l ++ [o])) (hs : ¬ o.sz ≤ 120) : kzN P (l ++ [o]) = (lgL P l (pgA o).toNat (pgK o).toNat).set (pgA o).toNat 6 := by
  have hin := (rightO_snoc.1 h).2.1
  have hw := hin.within
  have hk := hin.pgk
  unfold kzN lgL
  rw [map_range_set]
  refine map_range_eq fun i hi => ?_
  rw [kdL_snoc h]
  by_cases e : i = (pgA o).toNat
  · rw [if_pos e, if_pos ⟨by omega, by omega⟩, kdO_large hs, if_pos (by omega)]
  · rw [if_neg e]
    by_cases c : HasC o i
    · rw [if_pos c, if_pos (by obtain ⟨c1, c2⟩ := c; omega), kdO_large hs, if_neg (by obtain ⟨c1, c2⟩ := c; omega)]
    · rw [if_neg c, if_neg (fun x => c ⟨by omega, by omega⟩)]
/-- What breaks the rightness of a further one. -/
theorem not_small {P : Int} {l : List Spn} {o : Spn} (hs : o.sz ≤ 120) (h : RightO P l) (hk : kdL l (pgA o) ≠ -1 ∧ kdL l (pgA o) ≠ clN o.sz) : ¬ RightO P (l ++ [o]) := fun c => by
  rcases ((h.small hs).1 c).2.1 with e | e
  · exact hk.1 e
  · exact hk.2 e
theorem rightO_prefix {P : Int} {l : List Spn} {k : Nat} (h : ¬ RightO P (l.take k)) : ¬ RightO P l := fun c => h (c.take k)
end Go.Proofs.YtpbljjbhfhfmgaaGreatDoor
