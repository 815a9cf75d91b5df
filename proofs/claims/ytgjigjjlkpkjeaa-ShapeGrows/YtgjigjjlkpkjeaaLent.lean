/- joistlaw01.Lent and Kept by their contracts. -/
import Derived.Test.YtgjigjjlkpkjeaaInfo
import Derived.Laws.CopyOwn
namespace Go.Proofs.Ytgjigjjlkpkjeaa
set_option maxRecDepth 100000
open Go.RowKit

theorem hid {p : Prop} (h : p) : Hid p := h
/-- 'make([]T, l, c)'. -/
theorem wpList_make_some {P : Program} (w : World) {ops : Array Oper} {rest : List Oper} {o : Oper} {a : Act} {Q : Exit → Act → World → Prop}
    (hg : o.guard = none) (l c : Operand) (t : TypeId) (hop : o.op = Op.makeSlice t l c)
    (e : TypeId) (i : TypeInfo) (z : Value) (h1 : P.underlying t = some (.slice e)) (h2 : P.info? e = some i) (h3 : i.zero = some z) (h4 : i.size = 1) (h5 : z.cells = #[z])
    (kl kc : IntKind) (L C : Int) (n m : Nat) (hl : a.eval l = .int kl L) (hc : a.eval c = .int kc C) (hL : L = (n : Int)) (hC : C = (m : Int)) (hnm : n ≤ m) (b2 : i.bytes * m ≤ 281474976710656) (b3 : m ≤ maxLen)
    (hK : ∀ w', Hid (w'.heap[w.heap.size]? = some (.cells (List.replicate m z).toArray e (0, 0))) → Below w.heap.size w w' → wpList P ops Q rest (a.put o.dst (.slice (some ⟨w.heap.size, 0, none⟩) n m)) w') :
    wpList P ops Q (o :: rest) a w := by
  refine wpList_plain hg fun K hK' => ?_
  have hb' : (i.bytes : Int) * (m : Int) ≤ 281474976710656 := by
    have h : ((i.bytes * m : Nat) : Int) ≤ 281474976710656 := by omega
    rwa [Int.natCast_mul] at h
  have h63' : (m : Int) ≤ 9223372036854775807 := by
    have h := b3
    simp [maxLen] at h
    omega
  have hrun := run_make (P := P) w t e i z h1 h2 h3 kl kc n m (by omega) (by omega) hb' h63'
  simp only [Int.toNat_natCast] at hrun
  subst hL
  subst hC
  unfold Oper.wp
  simp [execOp, hop, hl, hc, hrun, Result.andThen]
  refine hK' _ _ (hK _ ?_ ((Below.refl _ _).alloc (Nat.le_refl _) _))
  show _ = _
  rw [heap_alloc_new, h4, h5, Nat.mul_one]
  congr 2
  apply Array.ext'
  rw [toList_madeCells_one]

/-- A row of bytes of the call's own, with one more behind them: 77. -/
def Lentd (w : World) (g : Nat) (zs : List Int) : Prop := w.heap[g]? = some (.cells ((zs ++ [77]).map (Value.int .u8)).toArray 5 (0, 0))
theorem Lentd.lt {w : World} {g : Nat} {zs : List Int} (h : Lentd w g zs) : g < w.heap.size := (Array.getElem?_eq_some_iff.1 h).1
theorem Lentd.below {w w' : World} {g : Nat} {zs : List Int} (h : Lentd w g zs) (hb : Below w.heap.size w w') : Lentd w' g zs := by
  have := h.lt
  unfold Lentd at h ⊢
  rw [hb.block g this]
  exact h
theorem Lentd.cell {w : World} {g : Nat} {zs : List Int} (h : Lentd w g zs) (j : Nat) : w.cell? ⟨g, j, none⟩ = ((zs ++ [77])[j]?).map (Value.int .u8) := by
  rw [cell_of_row w g j _ 5 (0, 0) h]
  simp only [List.getElem?_toArray, List.getElem?_map]
theorem Lentd.sl {w : World} {g n : Nat} {zs : List Int} (h : Lentd w g zs) (hn : zs.length = n) : Sl .u8 w (some ⟨g, 0, none⟩) n (n + 1) zs := by
  refine ⟨hn, by omega, (by intro h; cases h), fun _ => ⟨g, 0, rfl, h.lt, fun i hi => ?_⟩⟩
  have hi' : i < zs.length := by omega
  rw [Nat.zero_add, h.cell, List.getElem?_append_left hi']
  simp [List.getD, List.getElem?_eq_getElem hi']

end Go.Proofs.Ytgjigjjlkpkjeaa
