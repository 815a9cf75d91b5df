/- What a call leaves as it was: every block outside a set of blocks. -/
import Derived.Test.YtfglbhdfdpnnfaaDoorRow
import Derived.Maps.RangeWalk
namespace Go.Proofs.YtfglbhdfdpnnfaaDoor
set_option maxRecDepth 100000
open Go.RowKit

/-- Nothing outside F has turned. -/
structure Off (F : Nat → Prop) (w w' : World) : Prop where
  os : w'.os = w.os
  tape : w'.tape = w.tape
  output : w'.output = w.output
  size : w.heap.size ≤ w'.heap.size
  block : ∀ k, k < w.heap.size → ¬ F k → w'.heap[k]? = w.heap[k]?

theorem Off.refl (F : Nat → Prop) (w : World) : Off F w w := ⟨rfl, rfl, rfl, Nat.le_refl _, fun _ _ _ => rfl⟩
theorem Off.trans {F F' : Nat → Prop} {a b c : World} (h : Off F a b) (k : Off F' b c) (hF : ∀ j, F' j → F j ∨ a.heap.size ≤ j) : Off F a c :=
  ⟨k.os.trans h.os, k.tape.trans h.tape, k.output.trans h.output, Nat.le_trans h.size k.size, fun i hi hn =>
    (k.block i (Nat.lt_of_lt_of_le hi h.size) (fun hf => by rcases hF i hf with h1 | h1; exact hn h1; omega)).trans (h.block i hi hn)⟩
theorem Off.of_below {F : Nat → Prop} {w w' : World} (h : Below w.heap.size w w') : Off F w w' := ⟨h.os, h.tape, h.output, h.size, fun k hk _ => h.block k hk⟩
theorem Off.of_grown {F : Nat → Prop} {w w' : World} {row : Option Nat} (h : w.grownBy w' row) (hr : ∀ j, row = some j → F j ∨ w.heap.size ≤ j) : Off F w w' :=
  ⟨h.os, h.tape, h.output, h.size, fun k hk hn => h.block k hk (fun e => by rcases hr k e.symm with h1 | h1; exact hn h1; omega)⟩
theorem Off.below {F : Nat → Prop} {w w' : World} {B : Nat} (h : Off F w w') (hF : ∀ j, F j → B ≤ j) (hB : B ≤ w.heap.size) : Below B w w' :=
  ⟨h.os, h.tape, h.output, h.size, fun k hk => h.block k (by omega) (fun hf => by have := hF k hf; omega)⟩
theorem Off.mono {F F' : Nat → Prop} {w w' : World} (h : Off F w w') (hF : ∀ j, F j → j < w.heap.size → F' j) : Off F' w w' :=
  ⟨h.os, h.tape, h.output, h.size, fun k hk hn => h.block k hk (fun hf => hn (hF k hf hk))⟩
theorem Off.drewN {F : Nat → Prop} {a w : World} (h : Off F a w) (n : Nat) : Off F a (w.drewN n) := h.trans (F' := fun _ => False) ⟨rfl, rfl, rfl, Nat.le_refl _, fun _ _ _ => rfl⟩ (fun _ h => h.elim)

theorem Off.setCell {F : Nat → Prop} {w wr : World} (h : Off F w wr) (a : Addr) (v : Value) (hF : F a.block) : Off F w (wr.setCell a v) :=
  h.trans (F' := fun j => j = a.block) ⟨rfl, rfl, rfl, by simp [World.setCell], fun k _ hn => heap_setCell_other wr a k v hn⟩ (fun j hj => Or.inl (by rw [hj]; exact hF))

theorem Sl.off {k : IntKind} {F : Nat → Prop} {w w' : World} {ao : Option Addr} {n cap : Nat} {zs : List Int} (h : Sl k w ao n cap zs) (ho : Off F w w') (hno : 0 < n → ∀ c, ao = some c → ¬ F c.block) : Sl k w' ao n cap zs := by
  refine ⟨h.len, h.room, h.void, fun hn => ?_⟩
  obtain ⟨b, off, e, hlt, hc⟩ := h.here hn
  refine ⟨b, off, e, Nat.lt_of_lt_of_le hlt ho.size, fun i hi => ?_⟩
  rw [World.cell?_of_block (a := ⟨b, off + i, none⟩) (ho.block b hlt (hno hn _ e))]
  exact hc i hi
theorem Own.off {k : IntKind} {e : TypeId} {F : Nat → Prop} {B : Nat} {w w' : World} {ao : Option Addr} {n cap : Nat} {zs : List Int} (h : Own k e B w ao n cap zs) (ho : Off F w w') (hno : ∀ c, ao = some c → ¬ F c.block) : Own k e B w' ao n cap zs := by
  refine ⟨h.len, h.row.1, ?_⟩
  rcases h.row.2 with hn | ⟨g, cap', cur, hv, hg, hh, r⟩
  · exact Or.inl hn
  · refine Or.inr ⟨g, cap', cur, hv, hg, ?_, r⟩
    have e1 : ao = some ⟨g, 0, none⟩ := by simp only [Value.slice.injEq] at hv; exact hv.1
    rw [ho.block g (Array.getElem?_eq_some_iff.1 hh).1 (hno _ e1)]
    exact hh

/-- Behind a call F has become F'; nothing outside F has turned, and what is new in F' is new memory. -/
structure Goes (F : Nat → Prop) (w : World) (F' : Nat → Prop) (w' : World) : Prop where
  off : Off F w w'
  new : ∀ j, F' j → F j ∨ w.heap.size ≤ j
theorem Goes.refl (F : Nat → Prop) (w : World) : Goes F w F w := ⟨Off.refl _ _, fun _ h => Or.inl h⟩
theorem Goes.trans {F F' F'' : Nat → Prop} {a b c : World} (h : Goes F a F' b) (k : Goes F' b F'' c) : Goes F a F'' c :=
  ⟨h.off.trans k.off h.new, fun j hj => by
    rcases k.new j hj with h1 | h1
    · exact h.new j h1
    · exact Or.inr (Nat.le_trans h.off.size h1)⟩
theorem Goes.of_below {F : Nat → Prop} {w w' : World} (h : Below w.heap.size w w') : Goes F w F w' := ⟨Off.of_below h, fun _ h => Or.inl h⟩
theorem Goes.drewN {F F' : Nat → Prop} {a w : World} (h : Goes F a F' w) (n : Nat) : Goes F a F' (w.drewN n) := ⟨h.off.drewN n, h.new⟩
end Go.Proofs.YtfglbhdfdpnnfaaDoor
