/- The document's device in memory. -/
import Derived.Test.YtcelmnhdchfhiaaDo
namespace Go.Proofs.Ytcelmnhdchfhiaa
open Go.RowKit
set_option linter.unusedVariables false

/-- n lines; what lasts, what is seen; which lines are dirty, flushed. -/
structure RSt where
  n : Nat
  lasts : List Int
  seen : List Int
  dirty : List Bool
  flushed : List Bool
  armed : Int
  down : Bool
def RSt.new (zs : List Int) : RSt := ⟨zs.length / 64, zs, zs, List.replicate (zs.length / 64) false, List.replicate (zs.length / 64) false, 0, false⟩
structure RSt.Ok (R : RSt) : Prop where
  l0 : R.lasts.length = 64 * R.n
  l1 : R.seen.length = 64 * R.n
  l2 : R.dirty.length = R.n
  l3 : R.flushed.length = R.n
  n0 : 1 ≤ R.n
  n1 : R.n ≤ 4096
  a0 : 0 ≤ R.armed
  a1 : R.armed ≤ 9223372036854775807
  b0 : Bytes R.lasts
  b1 : Bytes R.seen
def rdevObj (lb lc sb sc db fb L n : Nat) (ar : Int) (dn : Bool) : Obj := .cells #[.slice (some ⟨lb, 0, none⟩) L lc, .slice (some ⟨sb, 0, none⟩) L sc, .slice (some ⟨db, 0, none⟩) n n, .slice (some ⟨fb, 0, none⟩) n n, .int .i64 ar, .bool dn] 60 (0, 0)
def boolObj (bs : List Bool) : Obj := .cells (bs.map Value.bool).toArray 4 (0, 0)
structure RDevAt (w : World) (G : Nat → Prop) (q : Nat) (R : RSt) (lb lc sb sc db fb : Nat) : Prop where
  ok : R.Ok
  obj : w.heap[q]? = some (rdevObj lb lc sb sc db fb (64 * R.n) R.n R.armed R.down)
  gq : G q
  gl : G lb
  gs : G sb
  gd : G db
  gf : G fb
  lasts : Own .u8 5 0 w (some ⟨lb, 0, none⟩) (64 * R.n) lc R.lasts
  seen : Own .u8 5 0 w (some ⟨sb, 0, none⟩) (64 * R.n) sc R.seen
  dirty : w.heap[db]? = some (boolObj R.dirty)
  flushed : w.heap[fb]? = some (boolObj R.flushed)
  ls : lb ≠ sb
  df : db ≠ fb
  bound : ∀ k, G k → k < w.heap.size
def RDev (w : World) (G : Nat → Prop) (q : Nat) (R : RSt) : Prop := ∃ lb lc sb sc db fb, RDevAt w G q R lb lc sb sc db fb

section
variable {w w' : World} {G : Nat → Prop} {q : Nat} {R : RSt} {lb lc sb sc db fb : Nat}
theorem RDevAt.ne_l (h : RDevAt w G q R lb lc sb sc db fb) : lb ≠ q := by
  intro e; obtain ⟨cur, hc, _⟩ := h.lasts.block; rw [e, h.obj] at hc; simp [rdevObj] at hc
theorem RDevAt.ne_s (h : RDevAt w G q R lb lc sb sc db fb) : sb ≠ q := by
  intro e; obtain ⟨cur, hc, _⟩ := h.seen.block; rw [e, h.obj] at hc; simp [rdevObj] at hc
theorem RDevAt.ne_d (h : RDevAt w G q R lb lc sb sc db fb) : db ≠ q := by
  intro e; have hc := h.dirty; rw [e, h.obj] at hc; simp [rdevObj, boolObj] at hc
theorem RDevAt.ne_f (h : RDevAt w G q R lb lc sb sc db fb) : fb ≠ q := by
  intro e; have hc := h.flushed; rw [e, h.obj] at hc; simp [rdevObj, boolObj] at hc
theorem RDevAt.ne_ld (h : RDevAt w G q R lb lc sb sc db fb) : lb ≠ db ∧ lb ≠ fb ∧ sb ≠ db ∧ sb ≠ fb := by
  obtain ⟨cur, hc, _⟩ := h.lasts.block
  obtain ⟨cur', hc', _⟩ := h.seen.block
  refine ⟨fun e => ?_, fun e => ?_, fun e => ?_, fun e => ?_⟩
  · have := h.dirty; rw [← e, hc] at this; simp [boolObj] at this
  · have := h.flushed; rw [← e, hc] at this; simp [boolObj] at this
  · have := h.dirty; rw [← e, hc'] at this; simp [boolObj] at this
  · have := h.flushed; rw [← e, hc'] at this; simp [boolObj] at this
/-- Another world, in which all of the device's blocks are the same. -/
theorem RDevAt.same (h : RDevAt w G q R lb lc sb sc db fb) (hs : w.heap.size ≤ w'.heap.size) (hb : ∀ k, G k → w'.heap[k]? = w.heap[k]?) : RDevAt w' G q R lb lc sb sc db fb :=
  ⟨h.ok, (hb q h.gq).trans h.obj, h.gq, h.gl, h.gs, h.gd, h.gf, own_same h.lasts (hb lb h.gl), own_same h.seen (hb sb h.gs), (hb db h.gd).trans h.dirty, (hb fb h.gf).trans h.flushed, h.ls, h.df, fun k hk => Nat.lt_of_lt_of_le (h.bound k hk) hs⟩
theorem RDev.off {F : Nat → Prop} (h : RDev w G q R) (ho : Off F w w') (hd : ∀ k, G k → ¬ F k) : RDev w' G q R := by
  obtain ⟨lb, lc, sb, sc, db, fb, h⟩ := h
  exact ⟨lb, lc, sb, sc, db, fb, h.same ho.size (fun k hk => ho.block k (h.bound k hk) (hd k hk))⟩
theorem RDev.below (h : RDev w G q R) (hb : Below w.heap.size w w') : RDev w' G q R := h.off (F := fun _ => False) (Off.of_below hb) (fun _ _ h => h)
theorem RDev.bound (h : RDev w G q R) : ∀ k, G k → k < w.heap.size := by obtain ⟨lb, lc, sb, sc, db, fb, h⟩ := h; exact h.bound
theorem RDev.ok (h : RDev w G q R) : R.Ok := by obtain ⟨lb, lc, sb, sc, db, fb, h⟩ := h; exact h.ok

theorem rdev_cells {L n : Nat} {ar : Int} {dn : Bool} (h : w.heap[q]? = some (rdevObj lb lc sb sc db fb L n ar dn)) :
    w.cell? ⟨q, 0, none⟩ = some (.slice (some ⟨lb, 0, none⟩) L lc) ∧ w.cell? ⟨q, 1, none⟩ = some (.slice (some ⟨sb, 0, none⟩) L sc) ∧ w.cell? ⟨q, 2, none⟩ = some (.slice (some ⟨db, 0, none⟩) n n) ∧ w.cell? ⟨q, 3, none⟩ = some (.slice (some ⟨fb, 0, none⟩) n n) ∧ w.cell? ⟨q, 4, none⟩ = some (.int .i64 ar) ∧ w.cell? ⟨q, 5, none⟩ = some (.bool dn) := by
  simp [World.cell?, h, rdevObj]
theorem rdev_frozen {L n : Nat} {ar : Int} {dn : Bool} (h : w.heap[q]? = some (rdevObj lb lc sb sc db fb L n ar dn)) (i : Nat) : w.frozen? ⟨q, i, none⟩ = false := by
  simp [World.frozen?, h, rdevObj]
theorem bool_cell {b i : Nat} {bs : List Bool} (h : w.heap[b]? = some (boolObj bs)) (hi : i < bs.length) : w.cell? ⟨b, i, none⟩ = some (.bool (bs.getD i false)) ∧ w.frozen? ⟨b, i, none⟩ = false := by
  constructor
  · simp [World.cell?, h, boolObj, List.getD, hi]
  · simp [World.frozen?, h, boolObj]

/-- Other armed, down. -/
theorem RDevAt.turned (h : RDevAt w G q R lb lc sb sc db fb) (hg : w.grownBy w' (some q)) (ar : Int) (dn : Bool) (h0 : 0 ≤ ar) (h1 : ar ≤ 9223372036854775807) (ho : w'.heap[q]? = some (rdevObj lb lc sb sc db fb (64 * R.n) R.n ar dn)) : RDevAt w' G q { R with armed := ar, down := dn } lb lc sb sc db fb := by
  have hb : ∀ k, G k → k ≠ q → w'.heap[k]? = w.heap[k]? := fun k hk hn => hg.block k (h.bound k hk) (by simpa using hn)
  exact ⟨⟨h.ok.l0, h.ok.l1, h.ok.l2, h.ok.l3, h.ok.n0, h.ok.n1, h0, h1, h.ok.b0, h.ok.b1⟩, ho, h.gq, h.gl, h.gs, h.gd, h.gf, own_same h.lasts (hb lb h.gl h.ne_l), own_same h.seen (hb sb h.gs h.ne_s), (hb db h.gd h.ne_d).trans h.dirty, (hb fb h.gf h.ne_f).trans h.flushed, h.ls, h.df, fun k hk => Nat.lt_of_lt_of_le (h.bound k hk) hg.size⟩
theorem RDevAt.seeing (h : RDevAt w G q R lb lc sb sc db fb) (hg : w.grownBy w' (some sb)) {zs : List Int} (ho : Own .u8 5 0 w' (some ⟨sb, 0, none⟩) (64 * R.n) sc zs) (hz : Bytes zs) : RDevAt w' G q { R with seen := zs } lb lc sb sc db fb := by
  have hb : ∀ k, G k → k ≠ sb → w'.heap[k]? = w.heap[k]? := fun k hk hn => hg.block k (h.bound k hk) (by simpa using hn)
  obtain ⟨n1, n2, n3, n4⟩ := h.ne_ld
  exact ⟨⟨h.ok.l0, ho.len, h.ok.l2, h.ok.l3, h.ok.n0, h.ok.n1, h.ok.a0, h.ok.a1, h.ok.b0, hz⟩, (hb q h.gq h.ne_s.symm).trans h.obj, h.gq, h.gl, h.gs, h.gd, h.gf, own_same h.lasts (hb lb h.gl h.ls), ho, (hb db h.gd n3.symm).trans h.dirty, (hb fb h.gf n4.symm).trans h.flushed, h.ls, h.df, fun k hk => Nat.lt_of_lt_of_le (h.bound k hk) hg.size⟩
theorem RDevAt.lastingTo (h : RDevAt w G q R lb lc sb sc db fb) (hg : w.grownBy w' (some lb)) {zs : List Int} (ho : Own .u8 5 0 w' (some ⟨lb, 0, none⟩) (64 * R.n) lc zs) (hz : Bytes zs) : RDevAt w' G q { R with lasts := zs } lb lc sb sc db fb := by
  have hb : ∀ k, G k → k ≠ lb → w'.heap[k]? = w.heap[k]? := fun k hk hn => hg.block k (h.bound k hk) (by simpa using hn)
  obtain ⟨n1, n2, n3, n4⟩ := h.ne_ld
  exact ⟨⟨ho.len, h.ok.l1, h.ok.l2, h.ok.l3, h.ok.n0, h.ok.n1, h.ok.a0, h.ok.a1, hz, h.ok.b1⟩, (hb q h.gq h.ne_l.symm).trans h.obj, h.gq, h.gl, h.gs, h.gd, h.gf, ho, own_same h.seen (hb sb h.gs h.ls.symm), (hb db h.gd n1.symm).trans h.dirty, (hb fb h.gf n2.symm).trans h.flushed, h.ls, h.df, fun k hk => Nat.lt_of_lt_of_le (h.bound k hk) hg.size⟩
theorem bool_set {b i : Nat} {bs : List Bool} (h : w.heap[b]? = some (boolObj bs)) (v : Bool) : (w.setCell ⟨b, i, none⟩ (.bool v)).heap[b]? = some (boolObj (bs.set i v)) ∧ w.grownBy (w.setCell ⟨b, i, none⟩ (.bool v)) (some b) := by
  obtain ⟨q1, q2, q3⟩ := setCell_obj h i (.bool v)
  refine ⟨?_, q2⟩
  rw [q1, boolObj, List.map_set, List.setIfInBounds_toArray]
theorem RDevAt.dirtied (h : RDevAt w G q R lb lc sb sc db fb) (i : Nat) (v : Bool) : RDevAt (w.setCell ⟨db, i, none⟩ (.bool v)) G q { R with dirty := R.dirty.set i v } lb lc sb sc db fb ∧ w.grownBy (w.setCell ⟨db, i, none⟩ (.bool v)) (some db) := by
  obtain ⟨hx, hg⟩ := bool_set h.dirty (i := i) v
  have hb : ∀ k, G k → k ≠ db → (w.setCell ⟨db, i, none⟩ (.bool v)).heap[k]? = w.heap[k]? := fun k hk hn => hg.block k (h.bound k hk) (by simpa using hn)
  obtain ⟨n1, n2, n3, n4⟩ := h.ne_ld
  exact ⟨⟨⟨h.ok.l0, h.ok.l1, by rw [List.length_set]; exact h.ok.l2, h.ok.l3, h.ok.n0, h.ok.n1, h.ok.a0, h.ok.a1, h.ok.b0, h.ok.b1⟩, (hb q h.gq h.ne_d.symm).trans h.obj, h.gq, h.gl, h.gs, h.gd, h.gf, own_same h.lasts (hb lb h.gl n1), own_same h.seen (hb sb h.gs n3), hx, (hb fb h.gf h.df.symm).trans h.flushed, h.ls, h.df, fun k hk => Nat.lt_of_lt_of_le (h.bound k hk) hg.size⟩, hg⟩
theorem RDevAt.flushedTo (h : RDevAt w G q R lb lc sb sc db fb) (i : Nat) (v : Bool) : RDevAt (w.setCell ⟨fb, i, none⟩ (.bool v)) G q { R with flushed := R.flushed.set i v } lb lc sb sc db fb ∧ w.grownBy (w.setCell ⟨fb, i, none⟩ (.bool v)) (some fb) := by
  obtain ⟨hx, hg⟩ := bool_set h.flushed (i := i) v
  have hb : ∀ k, G k → k ≠ fb → (w.setCell ⟨fb, i, none⟩ (.bool v)).heap[k]? = w.heap[k]? := fun k hk hn => hg.block k (h.bound k hk) (by simpa using hn)
  obtain ⟨n1, n2, n3, n4⟩ := h.ne_ld
  exact ⟨⟨⟨h.ok.l0, h.ok.l1, h.ok.l2, by rw [List.length_set]; exact h.ok.l3, h.ok.n0, h.ok.n1, h.ok.a0, h.ok.a1, h.ok.b0, h.ok.b1⟩, (hb q h.gq h.ne_f.symm).trans h.obj, h.gq, h.gl, h.gs, h.gd, h.gf, own_same h.lasts (hb lb h.gl n2), own_same h.seen (hb sb h.gs n4), (hb db h.gd h.df).trans h.dirty, hx, h.ls, h.df, fun k hk => Nat.lt_of_lt_of_le (h.bound k hk) hg.size⟩, hg⟩
theorem RDevAt.goes (h : RDevAt w G q R lb lc sb sc db fb) {k : Nat} (hk : G k) (hg : w.grownBy w' (some k)) : Goes G w G w' :=
  ⟨Off.of_grown hg (fun j hj => by cases hj; exact Or.inl hk), fun _ h => Or.inl h⟩
end
end Go.Proofs.Ytcelmnhdchfhiaa
