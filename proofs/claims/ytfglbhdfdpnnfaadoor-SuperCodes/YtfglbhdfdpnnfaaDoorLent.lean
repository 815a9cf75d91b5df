/- joistlaw01.Lent and Kept by their contracts. -/
import Derived.Test.YtfglbhdfdpnnfaaDoorInfo
import Derived.Laws.CopyOwn
namespace Go.Proofs.YtfglbhdfdpnnfaaDoor
set_option maxRecDepth 100000
open Go.RowKit

theorem hid {p : Prop} (h : p) : Hid p := h
/-- 'make([]T, l, c)'. -/
theorem wpList_make_some {P : Program} (w : World) {ops : Array Oper} {rest : List Oper} {o : Oper} {a : Act} {Q : Exit → Act → World → Prop}
    (hg : o.guard = none) (l c : Operand) (t : TypeId) (hop : o.op = Op.makeSlice t l c)
    (e : TypeId) (i : TypeInfo) (z : Value) (h1 : P.underlying t = some (.slice e)) (h2 : P.info? e = some i) (h3 : i.zero = some z) (h4 : i.size = 1) (h5 : z.cells = #[z])
    (kl kc : IntKind) (L C : Int) (n m : Nat) (hl : a.eval l = .int kl L) (hc : a.eval c = .int kc C) (hL : L = (n : Int)) (hC : C = (m : Int)) (hnm : n ≤ m) (b2 : i.bytes * m ≤ 281474976710656) (b3 : m ≤ maxLen)
    (hK : ∀ w', Hid (w'.heap[w.heap.size]? = some (.cells (List.replicate m z).toArray e (0, 0))) → Below w.heap.size w w' → wpList P ops Q rest (a.put o.dst (.slice (some ⟨w.heap.size, 0, none⟩) n m)) w') :
    wpList P ops Q (o :: rest) a w := by
  refine wpList_plain hg fun K hK' => ?_
  have hb' : (i.bytes : Int) * (m : Int) ≤ 281474976710656 := by
    have h : ((i.bytes * m : Nat) : Int) ≤ 281474976710656 := by omega
    rwa [Int.natCast_mul] at h
  have h63' : (m : Int) ≤ 9223372036854775807 := by
    have h := b3
    simp [maxLen] at h
    omega
  have hrun := run_make (P := P) w t e i z h1 h2 h3 kl kc n m (by omega) (by omega) hb' h63'
  simp only [Int.toNat_natCast] at hrun
  subst hL
  subst hC
  unfold Oper.wp
  simp [execOp, hop, hl, hc, hrun, Result.andThen]
  refine hK' _ _ (hK _ ?_ ((Below.refl _ _).alloc (Nat.le_refl _) _))
  show _ = _
  rw [heap_alloc_new, h4, h5, Nat.mul_one]
  congr 2
  apply Array.ext'
  rw [toList_madeCells_one]

/-- A row of bytes of the call's own, with one more behind them: 77. -/
def Lentd (w : World) (g : Nat) (zs : List Int) : Prop := w.heap[g]? = some (.cells ((zs ++ [77]).map (Value.int .u8)).toArray 5 (0, 0))
theorem Lentd.lt {w : World} {g : Nat} {zs : List Int} (h : Lentd w g zs) : g < w.heap.size := (Array.getElem?_eq_some_iff.1 h).1
theorem Lentd.below {w w' : World} {g : Nat} {zs : List Int} (h : Lentd w g zs) (hb : Below w.heap.size w w') : Lentd w' g zs := by
  have := h.lt
  unfold Lentd at h ⊢
  rw [hb.block g this]
  exact h
theorem Lentd.cell {w : World} {g : Nat} {zs : List Int} (h : Lentd w g zs) (j : Nat) : w.cell? ⟨g, j, none⟩ = ((zs ++ [77])[j]?).map (Value.int .u8) := by
  rw [cell_of_row w g j _ 5 (0, 0) h]
  simp only [List.getElem?_toArray, List.getElem?_map]
theorem Lentd.sl {w : World} {g n : Nat} {zs : List Int} (h : Lentd w g zs) (hn : zs.length = n) : Sl .u8 w (some ⟨g, 0, none⟩) n (n + 1) zs := by
  refine ⟨hn, by omega, (by intro h; cases h), fun _ => ⟨g, 0, rfl, h.lt, fun i hi => ?_⟩⟩
  have hi' : i < zs.length := by omega
  rw [Nat.zero_add, h.cell, List.getElem?_append_left hi']
  simp [List.getD, List.getElem?_eq_getElem hi']

set_option maxRecDepth 100000 in
theorem lent_any (ao : Option Addr) (n cap : Nat) (zs : List Int) (w : World) (h : Sl .u8 w ao n cap zs) (hn : n ≤ 140737488355328) :
    Calls Tryd.prog 7 #[.slice ao n cap] w fun e w' => e = .returned (.slice (some ⟨w.heap.size, 0, none⟩) n (n + 1)) ∧
      Lentd w' w.heap.size zs ∧ Below w.heap.size w w' := by
  have hlen := h.len
  have hroom := h.room
  obtain ⟨i0, hi, hz0, hz1, hz2⟩ := info_parts Tryd.info5
  go_enter Tryd.func7, Tryd.ntmps7
  have hcopy : ∀ w1, Below w.heap.size w w1 → 0 < (zs.map (Value.int .u8)).length → (some (⟨w.heap.size, 0, none⟩ : Addr) = some ⟨w.heap.size, 0, none⟩) ∧ ∃ ad, ao = some ad ∧ ∀ j v, (zs.map (Value.int .u8))[j]? = some v → w1.cell? (ad.add j) = some v := fun w1 hb hp => by
    rw [List.length_map] at hp
    obtain ⟨b, off, rfl, hlt, hc⟩ := h.here (by omega)
    refine ⟨rfl, _, rfl, fun j v hv => ?_⟩
    have hj : j < zs.length := by simpa using (List.getElem?_eq_some_iff.1 hv).1
    rw [Addr.add_lit, hb.cell (p := ⟨b, off + j, none⟩) hlt, hc j (by omega)]
    simp only [List.getElem?_map, List.getElem?_eq_getElem hj, Option.map_some, Option.some.injEq] at hv
    subst hv
    simp [List.getD, List.getElem?_eq_getElem hj]
  have hmin : (zs.map (Value.int .u8)).length = Nat.min n n := by simp [hlen]
  have hfit : 0 + (zs.map (Value.int .u8)).length ≤ (List.replicate (n + 1) (Value.int .u8 0)).length := by simp [hlen]
  have hspl : splice (List.replicate (n + 1) (Value.int .u8 0)) 0 (zs.map (Value.int .u8)) = (zs ++ [0]).map (Value.int .u8) := by
    simp only [splice, List.take_zero, List.nil_append, List.length_map, hlen, Nat.zero_add, List.drop_replicate, List.map_append, List.map_cons, List.map_nil]
    rw [show n + 1 - n = 1 by omega]
    rfl
  go_wp2_with (first
    | (at_make; refine wpList_make_some _ rfl _ _ 24 rfl 5 i0 (.int .u8 0) Tryd.underlying24 hi hz0 hz1 rfl .i64 .i64 _ _ n (n + 1) rfl rfl rfl rfl (by omega) (by rw [hz2]; omega) (by unfold maxLen; omega) ?_; intro w1 HG1 hb1)
    | (with_reducible refine wpList_copy_splice rfl (.tmp 10) (.tmp 11) 24 24 rfl 5 Tryd.underlying24 (by rw [hi]; simp [hz1]) _ _ _ _ _ _ rfl rfl w.heap.size 0 (List.replicate (n + 1) (.int .u8 0)) 5 HG1.out (zs.map (Value.int .u8)) hmin (hcopy w1 hb1) hfit (ints_oneCell _ _) w.heap.size w hb1 (Nat.le_refl _) ?_; intro w2 HG2 hb2; have hg2 := HG2.out; rw [hspl] at hg2; have HG3 := hid hg2; have hcell := cell_of_row w2 w.heap.size n _ 5 (0, 0) hg2; have hfr := frozen_of_row w2 w.heap.size n _ 5 hg2))
  go_ret
  refine ⟨rfl, ?_, hb2.setCell (Nat.le_refl _) _⟩
  unfold Lentd
  rw [heap_setCell_same _ _ _ _ _ _ HG3.out]
  congr 2
  apply Array.ext'
  simp only [Array.toList_setIfInBounds, List.map_append, List.map_cons, List.map_nil]
  rw [List.set_append_right _ _ (by simp [hlen])]
  simp [hlen]

set_option maxRecDepth 100000 in
theorem kept_any (g : Nat) (ao : Option Addr) (n cap : Nat) (zs : List Int) (w : World) (hl : Lentd w g zs) (h : Sl .u8 w ao n cap zs) (hn : n ≤ 140737488355328) :
    Calls Tryd.prog 10 #[.slice (some ⟨g, 0, none⟩) n (n + 1), .slice ao n cap] w fun e w' => e = .returned (.bool true) ∧ w = w' := by
  have hlen := h.len
  have hc1 := (hl.sl hlen).text (P := Tryd.prog) Tryd.underlying24 Tryd.underlying5 Tryd.underlying9
  have hc2 := h.text (P := Tryd.prog) Tryd.underlying24 Tryd.underlying5 Tryd.underlying9
  have hcell : w.cell? ⟨g, n, none⟩ = some (.int .u8 77) := by rw [hl.cell, ← hlen]; simp
  clear hl h
  go_enter Tryd.func10, Tryd.ntmps10
  go_wp2
  go_ret
  exact ⟨rfl, rfl⟩
end Go.Proofs.YtfglbhdfdpnnfaaDoor
