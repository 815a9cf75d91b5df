/- RDev · RDevA: these texts, one behind another. -/
import Derived.Test.YtgiippbjieecmaaGreatDoes
import Derived.Test.YtgiippbjieecmaaGreatApp
/- The document's device in memory. -/
namespace Go.Proofs.YtgiippbjieecmaaGreat
set_option maxRecDepth 100000
open Go.RowKit
set_option linter.unusedVariables false

/-- n lines; what lasts, what is seen; which lines are dirty, flushed. -/
structure RSt where
  n : Nat
  lasts : List Int
  seen : List Int
  dirty : List Bool
  flushed : List Bool
  armed : Int
  down : Bool
def RSt.new (zs : List Int) : RSt := ⟨zs.length / 64, zs, zs, List.replicate (zs.length / 64) false, List.replicate (zs.length / 64) false, 0, false⟩
structure RSt.Ok (R : RSt) : Prop where
  l0 : R.lasts.length = 64 * R.n
  l1 : R.seen.length = 64 * R.n
  l2 : R.dirty.length = R.n
  l3 : R.flushed.length = R.n
  n0 : 1 ≤ R.n
  n1 : R.n ≤ 4096
  a0 : 0 ≤ R.armed
  a1 : R.armed ≤ 9223372036854775807
  b0 : Bytes R.lasts
  b1 : Bytes R.seen
def rdevObj (lb lc sb sc db fb L n : Nat) (ar : Int) (dn : Bool) : Obj := .cells #[.slice (some ⟨lb, 0, none⟩) L lc, .slice (some ⟨sb, 0, none⟩) L sc, .slice (some ⟨db, 0, none⟩) n n, .slice (some ⟨fb, 0, none⟩) n n, .int .i64 ar, .bool dn] 56 (0, 0)
def boolObj (bs : List Bool) : Obj := .cells (bs.map Value.bool).toArray 4 (0, 0)
structure RDevAt (w : World) (G : Nat → Prop) (q : Nat) (R : RSt) (lb lc sb sc db fb : Nat) : Prop where
  ok : R.Ok
  obj : w.heap[q]? = some (rdevObj lb lc sb sc db fb (64 * R.n) R.n R.armed R.down)
  gq : G q
  gl : G lb
  gs : G sb
  gd : G db
  gf : G fb
  lasts : Own .u8 5 0 w (some ⟨lb, 0, none⟩) (64 * R.n) lc R.lasts
  seen : Own .u8 5 0 w (some ⟨sb, 0, none⟩) (64 * R.n) sc R.seen
  dirty : w.heap[db]? = some (boolObj R.dirty)
  flushed : w.heap[fb]? = some (boolObj R.flushed)
  ls : lb ≠ sb
  df : db ≠ fb
  bound : ∀ k, G k → k < w.heap.size
def RDev (w : World) (G : Nat → Prop) (q : Nat) (R : RSt) : Prop := ∃ lb lc sb sc db fb, RDevAt w G q R lb lc sb sc db fb

section
variable {w w' : World} {G : Nat → Prop} {q : Nat} {R : RSt} {lb lc sb sc db fb : Nat}
theorem RDevAt.ne_l (h : RDevAt w G q R lb lc sb sc db fb) : lb ≠ q := by
  intro e; obtain ⟨cur, hc, _⟩ := h.lasts.block; rw [e, h.obj] at hc; simp [rdevObj] at hc
theorem RDevAt.ne_s (h : RDevAt w G q R lb lc sb sc db fb) : sb ≠ q := by
  intro e; obtain ⟨cur, hc, _⟩ := h.seen.block; rw [e, h.obj] at hc; simp [rdevObj] at hc
theorem RDevAt.ne_d (h : RDevAt w G q R lb lc sb sc db fb) : db ≠ q := by
  intro e; have hc := h.dirty; rw [e, h.obj] at hc; simp [rdevObj, boolObj] at hc
theorem RDevAt.ne_f (h : RDevAt w G q R lb lc sb sc db fb) : fb ≠ q := by
  intro e; have hc := h.flushed; rw [e, h.obj] at hc; simp [rdevObj, boolObj] at hc
theorem RDevAt.ne_ld (h : RDevAt w G q R lb lc sb sc db fb) : lb ≠ db ∧ lb ≠ fb ∧ sb ≠ db ∧ sb ≠ fb := by
  obtain ⟨cur, hc, _⟩ := h.lasts.block
  obtain ⟨cur', hc', _⟩ := h.seen.block
  refine ⟨fun e => ?_, fun e => ?_, fun e => ?_, fun e => ?_⟩
  · have := h.dirty; rw [← e, hc] at this; simp [boolObj] at this
  · have := h.flushed; rw [← e, hc] at this; simp [boolObj] at this
  · have := h.dirty; rw [← e, hc'] at this; simp [boolObj] at this
  · have := h.flushed; rw [← e, hc'] at this; simp [boolObj] at this
/-- Another world, in which all of the device's blocks are the same. -/
theorem RDevAt.same (h : RDevAt w G q R lb lc sb sc db fb) (hs : w.heap.size ≤ w'.heap.size) (hb : ∀ k, G k → w'.heap[k]? = w.heap[k]?) : RDevAt w' G q R lb lc sb sc db fb :=
  ⟨h.ok, (hb q h.gq).trans h.obj, h.gq, h.gl, h.gs, h.gd, h.gf, own_same h.lasts (hb lb h.gl), own_same h.seen (hb sb h.gs), (hb db h.gd).trans h.dirty, (hb fb h.gf).trans h.flushed, h.ls, h.df, fun k hk => Nat.lt_of_lt_of_le (h.bound k hk) hs⟩
theorem RDev.off {F : Nat → Prop} (h : RDev w G q R) (ho : Off F w w') (hd : ∀ k, G k → ¬ F k) : RDev w' G q R := by
  obtain ⟨lb, lc, sb, sc, db, fb, h⟩ := h
  exact ⟨lb, lc, sb, sc, db, fb, h.same ho.size (fun k hk => ho.block k (h.bound k hk) (hd k hk))⟩
theorem RDev.below (h : RDev w G q R) (hb : Below w.heap.size w w') : RDev w' G q R := h.off (F := fun _ => False) (Off.of_below hb) (fun _ _ h => h)
theorem RDev.bound (h : RDev w G q R) : ∀ k, G k → k < w.heap.size := by obtain ⟨lb, lc, sb, sc, db, fb, h⟩ := h; exact h.bound
theorem RDev.ok (h : RDev w G q R) : R.Ok := by obtain ⟨lb, lc, sb, sc, db, fb, h⟩ := h; exact h.ok

theorem rdev_cells {L n : Nat} {ar : Int} {dn : Bool} (h : w.heap[q]? = some (rdevObj lb lc sb sc db fb L n ar dn)) :
    w.cell? ⟨q, 0, none⟩ = some (.slice (some ⟨lb, 0, none⟩) L lc) ∧ w.cell? ⟨q, 1, none⟩ = some (.slice (some ⟨sb, 0, none⟩) L sc) ∧ w.cell? ⟨q, 2, none⟩ = some (.slice (some ⟨db, 0, none⟩) n n) ∧ w.cell? ⟨q, 3, none⟩ = some (.slice (some ⟨fb, 0, none⟩) n n) ∧ w.cell? ⟨q, 4, none⟩ = some (.int .i64 ar) ∧ w.cell? ⟨q, 5, none⟩ = some (.bool dn) := by
  simp [World.cell?, h, rdevObj]
theorem rdev_frozen {L n : Nat} {ar : Int} {dn : Bool} (h : w.heap[q]? = some (rdevObj lb lc sb sc db fb L n ar dn)) (i : Nat) : w.frozen? ⟨q, i, none⟩ = false := by
  simp [World.frozen?, h, rdevObj]
theorem bool_cell {b i : Nat} {bs : List Bool} (h : w.heap[b]? = some (boolObj bs)) (hi : i < bs.length) : w.cell? ⟨b, i, none⟩ = some (.bool (bs.getD i false)) ∧ w.frozen? ⟨b, i, none⟩ = false := by
  constructor
  · simp [World.cell?, h, boolObj, List.getD, hi]
  · simp [World.frozen?, h, boolObj]

/-- Other armed, down. -/
theorem RDevAt.turned (h : RDevAt w G q R lb lc sb sc db fb) (hg : w.grownBy w' (some q)) (ar : Int) (dn : Bool) (h0 : 0 ≤ ar) (h1 : ar ≤ 9223372036854775807) (ho : w'.heap[q]? = some (rdevObj lb lc sb sc db fb (64 * R.n) R.n ar dn)) : RDevAt w' G q { R with armed := ar, down := dn } lb lc sb sc db fb := by
  have hb : ∀ k, G k → k ≠ q → w'.heap[k]? = w.heap[k]? := fun k hk hn => hg.block k (h.bound k hk) (by simpa using hn)
  exact ⟨⟨h.ok.l0, h.ok.l1, h.ok.l2, h.ok.l3, h.ok.n0, h.ok.n1, h0, h1, h.ok.b0, h.ok.b1⟩, ho, h.gq, h.gl, h.gs, h.gd, h.gf, own_same h.lasts (hb lb h.gl h.ne_l), own_same h.seen (hb sb h.gs h.ne_s), (hb db h.gd h.ne_d).trans h.dirty, (hb fb h.gf h.ne_f).trans h.flushed, h.ls, h.df, fun k hk => Nat.lt_of_lt_of_le (h.bound k hk) hg.size⟩
theorem RDevAt.seeing (h : RDevAt w G q R lb lc sb sc db fb) (hg : w.grownBy w' (some sb)) {zs : List Int} (ho : Own .u8 5 0 w' (some ⟨sb, 0, none⟩) (64 * R.n) sc zs) (hz : Bytes zs) : RDevAt w' G q { R with seen := zs } lb lc sb sc db fb := by
  have hb : ∀ k, G k → k ≠ sb → w'.heap[k]? = w.heap[k]? := fun k hk hn => hg.block k (h.bound k hk) (by simpa using hn)
  obtain ⟨n1, n2, n3, n4⟩ := h.ne_ld
  exact ⟨⟨h.ok.l0, ho.len, h.ok.l2, h.ok.l3, h.ok.n0, h.ok.n1, h.ok.a0, h.ok.a1, h.ok.b0, hz⟩, (hb q h.gq h.ne_s.symm).trans h.obj, h.gq, h.gl, h.gs, h.gd, h.gf, own_same h.lasts (hb lb h.gl h.ls), ho, (hb db h.gd n3.symm).trans h.dirty, (hb fb h.gf n4.symm).trans h.flushed, h.ls, h.df, fun k hk => Nat.lt_of_lt_of_le (h.bound k hk) hg.size⟩
theorem RDevAt.lastingTo (h : RDevAt w G q R lb lc sb sc db fb) (hg : w.grownBy w' (some lb)) {zs : List Int} (ho : Own .u8 5 0 w' (some ⟨lb, 0, none⟩) (64 * R.n) lc zs) (hz : Bytes zs) : RDevAt w' G q { R with lasts := zs } lb lc sb sc db fb := by
  have hb : ∀ k, G k → k ≠ lb → w'.heap[k]? = w.heap[k]? := fun k hk hn => hg.block k (h.bound k hk) (by simpa using hn)
  obtain ⟨n1, n2, n3, n4⟩ := h.ne_ld
  exact ⟨⟨ho.len, h.ok.l1, h.ok.l2, h.ok.l3, h.ok.n0, h.ok.n1, h.ok.a0, h.ok.a1, hz, h.ok.b1⟩, (hb q h.gq h.ne_l.symm).trans h.obj, h.gq, h.gl, h.gs, h.gd, h.gf, ho, own_same h.seen (hb sb h.gs h.ls.symm), (hb db h.gd n1.symm).trans h.dirty, (hb fb h.gf n2.symm).trans h.flushed, h.ls, h.df, fun k hk => Nat.lt_of_lt_of_le (h.bound k hk) hg.size⟩
theorem bool_set {b i : Nat} {bs : List Bool} (h : w.heap[b]? = some (boolObj bs)) (v : Bool) : (w.setCell ⟨b, i, none⟩ (.bool v)).heap[b]? = some (boolObj (bs.set i v)) ∧ w.grownBy (w.setCell ⟨b, i, none⟩ (.bool v)) (some b) := by
  obtain ⟨q1, q2, q3⟩ := setCell_obj h i (.bool v)
  refine ⟨?_, q2⟩
  rw [q1, boolObj, List.map_set, List.setIfInBounds_toArray]
theorem RDevAt.dirtied (h : RDevAt w G q R lb lc sb sc db fb) (i : Nat) (v : Bool) : RDevAt (w.setCell ⟨db, i, none⟩ (.bool v)) G q { R with dirty := R.dirty.set i v } lb lc sb sc db fb ∧ w.grownBy (w.setCell ⟨db, i, none⟩ (.bool v)) (some db) := by
  obtain ⟨hx, hg⟩ := bool_set h.dirty (i := i) v
  have hb : ∀ k, G k → k ≠ db → (w.setCell ⟨db, i, none⟩ (.bool v)).heap[k]? = w.heap[k]? := fun k hk hn => hg.block k (h.bound k hk) (by simpa using hn)
  obtain ⟨n1, n2, n3, n4⟩ := h.ne_ld
  exact ⟨⟨⟨h.ok.l0, h.ok.l1, by rw [List.length_set]; exact h.ok.l2, h.ok.l3, h.ok.n0, h.ok.n1, h.ok.a0, h.ok.a1, h.ok.b0, h.ok.b1⟩, (hb q h.gq h.ne_d.symm).trans h.obj, h.gq, h.gl, h.gs, h.gd, h.gf, own_same h.lasts (hb lb h.gl n1), own_same h.seen (hb sb h.gs n3), hx, (hb fb h.gf h.df.symm).trans h.flushed, h.ls, h.df, fun k hk => Nat.lt_of_lt_of_le (h.bound k hk) hg.size⟩, hg⟩
theorem RDevAt.flushedTo (h : RDevAt w G q R lb lc sb sc db fb) (i : Nat) (v : Bool) : RDevAt (w.setCell ⟨fb, i, none⟩ (.bool v)) G q { R with flushed := R.flushed.set i v } lb lc sb sc db fb ∧ w.grownBy (w.setCell ⟨fb, i, none⟩ (.bool v)) (some fb) := by
  obtain ⟨hx, hg⟩ := bool_set h.flushed (i := i) v
  have hb : ∀ k, G k → k ≠ fb → (w.setCell ⟨fb, i, none⟩ (.bool v)).heap[k]? = w.heap[k]? := fun k hk hn => hg.block k (h.bound k hk) (by simpa using hn)
  obtain ⟨n1, n2, n3, n4⟩ := h.ne_ld
  exact ⟨⟨⟨h.ok.l0, h.ok.l1, h.ok.l2, by rw [List.length_set]; exact h.ok.l3, h.ok.n0, h.ok.n1, h.ok.a0, h.ok.a1, h.ok.b0, h.ok.b1⟩, (hb q h.gq h.ne_f.symm).trans h.obj, h.gq, h.gl, h.gs, h.gd, h.gf, own_same h.lasts (hb lb h.gl n2), own_same h.seen (hb sb h.gs n4), (hb db h.gd h.df).trans h.dirty, hx, h.ls, h.df, fun k hk => Nat.lt_of_lt_of_le (h.bound k hk) hg.size⟩, hg⟩
theorem RDevAt.goes (h : RDevAt w G q R lb lc sb sc db fb) {k : Nat} (hk : G k) (hg : w.grownBy w' (some k)) : Goes G w G w' :=
  ⟨Off.of_grown hg (fun j hj => by cases hj; exact Or.inl hk), fun _ h => Or.inl h⟩
end
end Go.Proofs.YtgiippbjieecmaaGreat
/- joistref03's small calls by their contracts. -/
namespace Go.Proofs.YtgiippbjieecmaaGreat
set_option maxRecDepth 100000
open Go.RowKit
set_option linter.unusedVariables false

def raskE (R : RSt) (a n : Int) : Int := if R.down = true then 5 else if a < 0 ∨ n < 0 ∨ n > ((64 * R.n : Nat) : Int) - a then 1 else 0
def rstepS (R : RSt) : RSt := if R.armed = 0 then R else { R with armed := R.armed - 1, down := decide (R.armed = 1) }
def rstepB (R : RSt) : Bool := decide (R.armed = 1)
section
variable {w : World} {G : Nat → Prop} {q : Nat} {R : RSt}
theorem rlines_any (hd : RDev w G q R) : Calls Tryz.prog 33 #[.pointer (some ⟨q, 0, none⟩)] w fun e w' => e = .returned (.int .i64 R.n) ∧ w = w' := by
  obtain ⟨lb, lc, sb, sc, db, fb, hd⟩ := hd
  obtain ⟨c0, c1, c2, c3, c4, c5⟩ := rdev_cells hd.obj
  have hn := hd.ok.n1
  clear hd
  go_enter Tryz.func33, Tryz.ntmps33
  go_wp2
  go_ret
  exact ⟨rfl, rfl⟩
theorem rdown_any (hd : RDev w G q R) : Calls Tryz.prog 21 #[.pointer (some ⟨q, 0, none⟩)] w fun e w' => e = .returned (.bool R.down) ∧ w = w' := by
  obtain ⟨lb, lc, sb, sc, db, fb, hd⟩ := hd
  obtain ⟨c0, c1, c2, c3, c4, c5⟩ := rdev_cells hd.obj
  clear hd
  go_enter Tryz.func21, Tryz.ntmps21
  go_wp2
  go_ret
  exact ⟨rfl, rfl⟩
theorem rimage_any (hd : RDev w G q R) : Calls Tryz.prog 17 #[.pointer (some ⟨q, 0, none⟩)] w fun e w' => ∃ ao c, e = .returned (.slice ao (64 * R.n) c) ∧ Own .u8 5 w.heap.size w' ao (64 * R.n) c R.lasts ∧ Below w.heap.size w w' := by
  obtain ⟨lb, lc, sb, sc, db, fb, hd⟩ := hd
  have hn := hd.ok.n1
  have hb0 : Below w.heap.size w (w.alloc (.cells #[] 5)) := (Below.refl _ _).alloc (Nat.le_refl _) _
  obtain ⟨c0, _, _, _, _, _⟩ := rdev_cells hd.obj
  have c0' := (hb0.cell (p := ⟨q, 0, none⟩) (hd.bound q hd.gq)).trans c0
  have hs := hd.lasts.sl.below hb0
  have hmade : (w.alloc (.cells #[] 5)).ownsRow w.heap.size 5 1 (.slice (some ⟨w.heap.size, 0, none⟩) 0 0) 0 (([] : List Int).map (Value.int .u8)) := World.ownsRow_made w #[] 0 (Nat.le_refl _) (Nat.zero_le _) rfl
  have hs0 := hb0.size
  obtain ⟨L, hL⟩ : ∃ L, 64 * R.n = L := ⟨_, rfl⟩
  rw [hL] at c0 c0' hs ⊢
  have nL : 0 + L ≤ 140737488355328 := by omega
  clear hL hd c0 hn
  go_enter Tryz.func17, Tryz.ntmps17
  go_wp2_with (at_builtin; refine append_sl rfl (.tmp 3) (.tmp 7) rfl w.heap.size _ 0 [] rfl hmade _ L _ R.lasts rfl hs nL hs0 ?_; intro bo c w1 hown hgr _)
  go_ret
  rw [Nat.zero_add, List.nil_append] at hown
  exact ⟨bo, c, by simp, hown, hb0.grown hgr hs0 (fun b hb' => (hmade.lt b hb').1)⟩
theorem rview_any (hd : RDev w G q R) : Calls Tryz.prog 19 #[.pointer (some ⟨q, 0, none⟩)] w fun e w' => ∃ ao c, e = .returned (.slice ao (64 * R.n) c) ∧ Own .u8 5 w.heap.size w' ao (64 * R.n) c R.seen ∧ Below w.heap.size w w' := by
  obtain ⟨lb, lc, sb, sc, db, fb, hd⟩ := hd
  have hn := hd.ok.n1
  have hb0 : Below w.heap.size w (w.alloc (.cells #[] 5)) := (Below.refl _ _).alloc (Nat.le_refl _) _
  obtain ⟨_, c0, _, _, _, _⟩ := rdev_cells hd.obj
  have c0' := (hb0.cell (p := ⟨q, 1, none⟩) (hd.bound q hd.gq)).trans c0
  have hs := hd.seen.sl.below hb0
  have hmade : (w.alloc (.cells #[] 5)).ownsRow w.heap.size 5 1 (.slice (some ⟨w.heap.size, 0, none⟩) 0 0) 0 (([] : List Int).map (Value.int .u8)) := World.ownsRow_made w #[] 0 (Nat.le_refl _) (Nat.zero_le _) rfl
  have hs0 := hb0.size
  obtain ⟨L, hL⟩ : ∃ L, 64 * R.n = L := ⟨_, rfl⟩
  rw [hL] at c0 c0' hs ⊢
  have nL : 0 + L ≤ 140737488355328 := by omega
  clear hL hd c0 hn
  go_enter Tryz.func19, Tryz.ntmps19
  go_wp2_with (at_builtin; refine append_sl rfl (.tmp 3) (.tmp 7) rfl w.heap.size _ 0 [] rfl hmade _ L _ R.seen rfl hs nL hs0 ?_; intro bo c w1 hown hgr _)
  go_ret
  rw [Nat.zero_add, List.nil_append] at hown
  exact ⟨bo, c, by simp, hown, hb0.grown hgr hs0 (fun b hb' => (hmade.lt b hb').1)⟩
theorem RDevAt.armedTo {lb lc sb sc db fb : Nat} (h : RDevAt w G q R lb lc sb sc db fb) (n : Int) (h0 : 0 ≤ n) (h1 : n ≤ 9223372036854775807) :
    RDevAt (w.setCell ⟨q, 4, none⟩ (.int .i64 n)) G q { R with armed := n } lb lc sb sc db fb ∧ w.grownBy (w.setCell ⟨q, 4, none⟩ (.int .i64 n)) (some q) := by
  obtain ⟨e1, e2, e3⟩ := setCell_obj h.obj 4 (.int .i64 n)
  exact ⟨h.turned e2 n R.down h0 h1 e1, e2⟩
theorem RDevAt.downTo {lb lc sb sc db fb : Nat} (h : RDevAt w G q R lb lc sb sc db fb) (b : Bool) :
    RDevAt (w.setCell ⟨q, 5, none⟩ (.bool b)) G q { R with down := b } lb lc sb sc db fb ∧ w.grownBy (w.setCell ⟨q, 5, none⟩ (.bool b)) (some q) := by
  obtain ⟨e1, e2, e3⟩ := setCell_obj h.obj 5 (.bool b)
  exact ⟨h.turned e2 R.armed b h.ok.a0 h.ok.a1 e1, e2⟩
theorem rarm_any (hd : RDev w G q R) (n : Int) (hn : Rg n) : Calls Tryz.prog 13 #[.pointer (some ⟨q, 0, none⟩), .int .i64 n] w fun e w' => e = .returned (.tuple #[]) ∧ RDev w' G q { R with armed := max n 0 } ∧ Goes G w G w' := by
  obtain ⟨lb, lc, sb, sc, db, fb, hd⟩ := hd
  obtain ⟨c0, c1, c2, c3, c4, c5⟩ := rdev_cells hd.obj
  have hf := rdev_frozen hd.obj 4
  obtain ⟨d1, g1⟩ := hd.armedTo (max n 0) (by omega) (by have := hn.2; omega)
  have hgo := hd.goes hd.gq g1
  clear hd
  go_enter Tryz.func13, Tryz.ntmps13
  go_wp2
  go_end0
  exact ⟨rfl, ⟨_, _, _, _, _, _, d1⟩, hgo⟩
theorem rasks_any (hd : RDev w G q R) (a n : Int) (ha : Rg a) (hn : Rg n) : Calls Tryz.prog 77 #[.pointer (some ⟨q, 0, none⟩), .int .i64 a, .int .i64 n] w fun e w' => e = .returned (.int .i64 (raskE R a n)) ∧ w = w' := by
  obtain ⟨lb, lc, sb, sc, db, fb, hd⟩ := hd
  obtain ⟨c0, c1, c2, c3, c4, c5⟩ := rdev_cells hd.obj
  have hn1 := hd.ok.n1
  unfold Rg at ha hn
  unfold raskE
  obtain ⟨L, hL⟩ : ∃ L, 64 * R.n = L := ⟨_, rfl⟩
  rw [hL] at c0 c1 ⊢
  have hL9 : L ≤ 262144 := by omega
  clear hL hd hn1
  cases hdn : R.down with
  | true =>
    rw [hdn] at c5
    go_enter Tryz.func77, Tryz.ntmps77
    go_wp2
    go_ret
    exact ⟨rfl, rfl⟩
  | false =>
    rw [hdn] at c5
    rw [if_neg (by simp)]
    by_cases h1 : a < 0
    · have h1' : decide (a < 0) = true := by simpa using h1
      rw [if_pos (by omega)]
      go_enter Tryz.func77, Tryz.ntmps77
      go_wp2
      go_ret
      exact ⟨rfl, rfl⟩
    · by_cases h2 : (L : Int) < a
      · rw [if_pos (by omega)]
        go_enter Tryz.func77, Tryz.ntmps77
        go_wp2
        go_ret
        exact ⟨rfl, rfl⟩
      · by_cases h3 : n < 0
        · rw [if_pos (by omega)]
          go_enter Tryz.func77, Tryz.ntmps77
          go_wp2
          go_ret
          exact ⟨rfl, rfl⟩
        · by_cases h4 : (L : Int) - a < n
          · rw [if_pos (by omega)]
            go_enter Tryz.func77, Tryz.ntmps77
            go_wp2
            go_ret
            exact ⟨rfl, rfl⟩
          · rw [if_neg (by omega)]
            go_enter Tryz.func77, Tryz.ntmps77
            go_wp2
            go_ret
            exact ⟨rfl, rfl⟩
theorem rstep_any (hd : RDev w G q R) (hdn : R.down = false) : Calls Tryz.prog 78 #[.pointer (some ⟨q, 0, none⟩)] w fun e w' => e = .returned (.bool (rstepB R)) ∧ RDev w' G q (rstepS R) ∧ Goes G w G w' := by
  obtain ⟨lb, lc, sb, sc, db, fb, hd⟩ := hd
  have hf := rdev_frozen hd.obj 4
  have a0 := hd.ok.a0
  have a1 := hd.ok.a1
  by_cases h0 : R.armed = 0
  · obtain ⟨c0, c1, c2, c3, c4, c5⟩ := rdev_cells hd.obj
    rw [h0] at c4
    have e1 : rstepS R = R := by unfold rstepS; rw [if_pos h0]
    have e2 : rstepB R = false := by unfold rstepB; rw [h0]; rfl
    rw [e1, e2]
    have H := hid hd
    clear hd h0 e1 e2
    go_enter Tryz.func78, Tryz.ntmps78
    go_wp2
    go_ret
    exact ⟨rfl, ⟨_, _, _, _, _, _, H.out⟩, Goes.refl _ _⟩
  · obtain ⟨c0, c1, c2, c3, c4, c5⟩ := rdev_cells hd.obj
    obtain ⟨d1, g1⟩ := hd.armedTo (R.armed - 1) (by omega) (by omega)
    obtain ⟨e0, e1, e2, e3, e4, e5⟩ := rdev_cells d1.obj
    have hf1 := rdev_frozen d1.obj 5
    obtain ⟨d2, g2⟩ := d1.downTo (R.armed - 1 == 0)
    obtain ⟨k0, k1, k2, k3, k4, k5⟩ := rdev_cells d2.obj
    have hgo := (hd.goes hd.gq g1).trans (d1.goes d1.gq g2)
    have hv : (R.armed - 1 == 0) = rstepB R := by unfold rstepB; rw [Bool.eq_iff_iff, beq_iff_eq, decide_eq_true_eq]; omega
    have hS : rstepS R = { R with armed := R.armed - 1, down := (R.armed - 1 == 0) } := by unfold rstepS; rw [if_neg h0, hv]; rfl
    rw [hS]
    have hne : (R.armed == 0) = false := by simpa using h0
    simp only at e0 e1 e2 e3 e4 e5 k0 k1 k2 k3 k4 k5
    have H := hid d2
    have HV := hid hv
    clear hd d1 d2 hS hv h0
    generalize R.armed = A at *
    go_enter Tryz.func78, Tryz.ntmps78
    go_wp2
    go_ret
    exact ⟨ret_bool HV.out, ⟨_, _, _, _, _, _, H.out⟩, hgo⟩
end
end Go.Proofs.YtgiippbjieecmaaGreat
