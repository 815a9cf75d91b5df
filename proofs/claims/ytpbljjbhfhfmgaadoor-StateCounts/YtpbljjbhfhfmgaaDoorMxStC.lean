/- StC · StD · StE: these texts, one behind another. -/
import Derived.Test.YtpbljjbhfhfmgaaDoorMxStV
import Derived.Test.YtpbljjbhfhfmgaaDoorMxTagP
import Derived.Test.YtpbljjbhfhfmgaaDoorMxRootB
import Derived.Deep.RegionHeld3
/- bytes.Clone, slices.Clone of slots, of roots, of rows; state.copyEach; state.Copy: by their contracts. -/
namespace Go.Proofs.YtpbljjbhfhfmgaaDoor
set_option maxRecDepth 100000
open Go.RowKit
set_option linter.unusedVariables false
set_option linter.unusedSimpArgs false
set_option maxRecDepth 100000

theorem own_emptyT (B : Nat) (w : World) (hB : B ≤ w.heap.size) : (w.alloc (.cells #[] 33)).ownsRow B 33 5 (.slice (some ⟨w.heap.size, 0, none⟩) 0 0) 0 (cellsT []) :=
  World.ownsRow_made w #[] 0 hB (Nat.zero_le _) rfl
theorem Rd.rows {w : World} {ao : Option Addr} {n cap : Nat} {A : Nat → Option Addr} {N C : Nat → Nat} {ds : List (List Int)} (h : Rd w ao n cap A N C ds) : ∀ ad, ao = some ad → ∀ j u, ((List.range n).map (sliV A N C))[j]? = some u → w.cell? (ad.add j) = some u := by
  intro ad e j u hu
  have hj : j < n := by
    have := (List.getElem?_eq_some_iff.1 hu).1
    simpa using this
  obtain ⟨b, off, rfl, _, hc⟩ := h.here (by omega)
  cases e
  rw [Addr.add_lit, hc j hj, ← hu]
  simp [hj, sliV]
end Go.Proofs.YtpbljjbhfhfmgaaDoor
/- state.copyEach and state.Copy by their contracts. -/
namespace Go.Proofs.YtpbljjbhfhfmgaaDoor
set_option maxRecDepth 100000
open Go.RowKit
set_option linter.unusedVariables false
set_option linter.unusedSimpArgs false
set_option maxRecDepth 100000

/-- A state whose slices are the call's own. -/
structure OwS (B : Nat) (w : World) (v : StV) (x : Stt) : Prop where
  s : OwT B w v.so v.sn v.sc x.sl
  r : OwR B w v.ro v.rn v.rc x.rt
  d : OwRw B w v.to v.tn v.tc v.A v.N v.C x.dt
theorem OwS.below {B : Nat} {w w' : World} {v : StV} {x : Stt} (h : OwS B w v x) (hb : Below w.heap.size w w') : OwS B w' v x := ⟨h.s.below hb, h.r.below hb, h.d.below hb⟩
theorem OwS.mono {B B' : Nat} {w : World} {v : StV} {x : Stt} (h : OwS B w v x) (hB : B' ≤ B) : OwS B' w v x := ⟨h.s.mono hB, h.r.mono hB, h.d.mono hB⟩
/-- Rows of bytes, of which the first k are the call's own. -/
structure CpW (B : Nat) (w : World) (g n cap k : Nat) (A : Nat → Option Addr) (N C : Nat → Nat) (ds : List (List Int)) : Prop where
  row : w.ownsRow B 50 1 (.slice (some ⟨g, 0, none⟩) n cap) n ((List.range n).map (sliV A N C))
  own : ∀ i, i < k → Own .u8 5 B w (A i) (N i) (C i) (da ds i)
  apart : ∀ i j, i < j → j < k → ∀ a b, A i = some a → A j = some b → a.block ≠ b.block
theorem CpW.cell {B : Nat} {w : World} {g n cap k : Nat} {A : Nat → Option Addr} {N C : Nat → Nat} {ds : List (List Int)} (h : CpW B w g n cap k A N C ds) {i : Nat} (hi : i < n) : w.cell? ⟨g, i, none⟩ = some (.slice (A i) (N i) (C i)) := by
  rw [h.row.cellAt i (by omega)]
  simp [hi, sliV]
theorem CpW.below {B : Nat} {w w' : World} {g n cap k : Nat} {A : Nat → Option Addr} {N C : Nat → Nat} {ds : List (List Int)} (h : CpW B w g n cap k A N C ds) (hb : Below w.heap.size w w') : CpW B w' g n cap k A N C ds := ⟨ownsRow_below h.row hb, fun i hi => (h.own i hi).below hb, h.apart⟩
theorem CpW.step {B : Nat} {wr w1 : World} {g n cap k : Nat} {A : Nat → Option Addr} {N C : Nat → Nat} {ds : List (List Int)} {a : Option Addr} {m c : Nat} (h : CpW B wr g n cap k A N C ds) (hb : Below wr.heap.size wr w1) (hl : Own .u8 5 wr.heap.size w1 a m c (da ds k)) (hB : B ≤ wr.heap.size) (hk : k < n) :
    CpW B (w1.setCell ⟨g, k, none⟩ (.slice a m c)) g n cap (k + 1) (upd A k a) (upd N k m) (upd C k c) ds := by
  have h1 := h.below hb
  have e : (List.range n).map (sliV (upd A k a) (upd N k m) (upd C k c)) = ((List.range n).map (sliV A N C)).set k (.slice a m c) := by
    apply List.ext_getElem (by simp)
    intro i hi1 hi2
    simp at hi1
    rw [List.getElem_set]
    by_cases e : k = i
    · subst e; simp [sliV, upd_same]
    · rw [if_neg e]; simp [sliV, upd_other _ _ _ (Ne.symm e)]
  have hoff : Off (fun j => j = g) w1 (w1.setCell ⟨g, k, none⟩ (.slice a m c)) := (Off.refl _ _).setCell _ _ rfl
  have hfar : ∀ {B' : Nat} {ao : Option Addr} {n' c' : Nat} {zs : List Int}, Own .u8 5 B' w1 ao n' c' zs → Own .u8 5 B' (w1.setCell ⟨g, k, none⟩ (.slice a m c)) ao n' c' zs := fun ho => ho.off hoff (fun x hx e => own_far2 ho h1.row x hx (by simp [Value.ownBlock, e]))
  refine ⟨by rw [e]; exact (h1.row.stored k (.slice a m c)).1, fun i hi => ?_, fun i j hij hj x y ex ey => ?_⟩
  · by_cases e : i = k
    · subst e
      rw [upd_same, upd_same, upd_same]
      exact (hfar hl).mono hB
    · rw [upd_other _ _ _ e, upd_other _ _ _ e, upd_other _ _ _ e]
      exact hfar (h1.own i (by omega))
  · have hold : ∀ i, i < k → ∀ b, A i = some b → b.block < wr.heap.size := fun i hi b e => ((h.own i hi).row.lt b.block (by rw [e]; rfl)).2
    by_cases e : j = k
    · subst e
      rw [upd_same] at ey
      rw [upd_other _ _ _ (by omega)] at ex
      have h1 := hold i (by omega) x ex
      have h2 := (hl.row.lt y.block (by rw [ey]; rfl)).1
      omega
    · rw [upd_other _ _ _ e] at ey
      rw [upd_other _ _ _ (by omega)] at ex
      exact h.apart i j hij (by omega) x y ex ey
theorem Rt.set_self (l : List Rt) (k : Nat) (h : k < l.length) : l.set k (ra l k) = l := by
  apply List.ext_getElem (by simp)
  intro i h1 h2
  rw [List.getElem_set]
  by_cases e : k = i
  · subst e; simp [ra, List.getD, h]
  · rw [if_neg e]
theorem root_cells {w : World} {b : Nat} {u v x : Value} (h : w.heap[b]? = some (.cells #[u, v, x] 54 (0, 0))) : w.cell? ⟨b, 0, none⟩ = some u ∧ w.cell? ⟨b, 1, none⟩ = some v ∧ w.cell? ⟨b, 2, none⟩ = some x ∧ w.frozen? ⟨b, 0, none⟩ = false ∧ w.frozen? ⟨b, 1, none⟩ = false ∧ w.frozen? ⟨b, 2, none⟩ = false :=
  ⟨by rw [cell_of_row w b 0 _ _ _ h]; rfl, by rw [cell_of_row w b 1 _ _ _ h]; rfl, by rw [cell_of_row w b 2 _ _ _ h]; rfl, frozen_of_row w b 0 _ _ h, frozen_of_row w b 1 _ _ h, frozen_of_row w b 2 _ _ h⟩
end Go.Proofs.YtpbljjbhfhfmgaaDoor
/- state.Copy by its contract. -/
namespace Go.Proofs.YtpbljjbhfhfmgaaDoor
set_option maxRecDepth 100000
open Go.RowKit
set_option linter.unusedVariables false
set_option linter.unusedSimpArgs false
set_option maxRecDepth 100000

theorem BxT.put6 {w : World} {b : Nat} {v : StV} {x : Stt} (h : BxT w b v x) (ao : Option Addr) (n c : Nat) : BxT (w.setCell ⟨b, 6, none⟩ (.slice ao n c)) b { v with so := ao, sn := n, sc := c } x := heap_setCell_same w b 6 _ 28 _ h
theorem BxT.put7 {w : World} {b : Nat} {v : StV} {x : Stt} (h : BxT w b v x) (ao : Option Addr) (n c : Nat) : BxT (w.setCell ⟨b, 7, none⟩ (.slice ao n c)) b { v with ro := ao, rn := n, rc := c } x := heap_setCell_same w b 7 _ 28 _ h
theorem BxT.put8 {w : World} {b : Nat} {v : StV} {x : Stt} (h : BxT w b v x) (ao : Option Addr) (n c : Nat) (A : Nat → Option Addr) (N C : Nat → Nat) : BxT (w.setCell ⟨b, 8, none⟩ (.slice ao n c)) b { v with to := ao, tn := n, tc := c, A := A, N := N, C := C } x := heap_setCell_same w b 8 _ 28 _ h
def zStV : StV := ⟨none, 0, 0, none, 0, 0, none, 0, 0, fun _ => none, fun _ => 0, fun _ => 0⟩
theorem BxT.frees {w : World} {b : Nat} {v : StV} {x : Stt} (h : BxT w b v x) : w.frozen? ⟨b, 6, none⟩ = false ∧ w.frozen? ⟨b, 7, none⟩ = false ∧ w.frozen? ⟨b, 8, none⟩ = false := ⟨h.free 6, h.free 7, h.free 8⟩
/-- Nine cells of a block laid anew. -/
theorem nine_off (w : World) (z : Nat) (u0 u1 u2 u3 u4 u5 u6 u7 u8 : Value) : Off (fun j => j = z) w (((((((((w.setCell ⟨z, 0, none⟩ u0).setCell ⟨z, 1, none⟩ u1).setCell ⟨z, 2, none⟩ u2).setCell ⟨z, 3, none⟩ u3).setCell ⟨z, 4, none⟩ u4).setCell ⟨z, 5, none⟩ u5).setCell ⟨z, 6, none⟩ u6).setCell ⟨z, 7, none⟩ u7).setCell ⟨z, 8, none⟩ u8) := by
  have h := Off.refl (fun j => j = z) w
  have h := h.setCell ⟨z, 0, none⟩ u0 rfl
  have h := h.setCell ⟨z, 1, none⟩ u1 rfl
  have h := h.setCell ⟨z, 2, none⟩ u2 rfl
  have h := h.setCell ⟨z, 3, none⟩ u3 rfl
  have h := h.setCell ⟨z, 4, none⟩ u4 rfl
  have h := h.setCell ⟨z, 5, none⟩ u5 rfl
  have h := h.setCell ⟨z, 6, none⟩ u6 rfl
  have h := h.setCell ⟨z, 7, none⟩ u7 rfl
  have h := h.setCell ⟨z, 8, none⟩ u8 rfl
  exact h
/-- What stands while a state is copied: its box, the answer's block; all that came in is as it was. -/
structure CpT (w : World) (x : Stt) (W : World) (v' : StV) : Prop where
  bx : BxT W w.heap.size v' x
  zz : BxT W (w.heap.size + 1) zStV zSt
  bl : Below w.heap.size w W
theorem CpT.call {w : World} {x : Stt} {W W' : World} {v' : StV} (h : CpT w x W v') (hb : Below W.heap.size W W') : CpT w x W' v' := ⟨h.bx.kept hb, h.zz.kept hb, next h.bl hb⟩
theorem CpT.zset {w : World} {x : Stt} {W : World} {v' : StV} (h : CpT w x W v') (i : Nat) (u : Value) : BxT (W.setCell ⟨w.heap.size, i, none⟩ u) (w.heap.size + 1) zStV zSt := h.zz.off (F := fun j => j = w.heap.size) ((Off.refl _ _).setCell _ _ rfl) (by omega)
theorem CpT.st6 {w : World} {x : Stt} {W : World} {v' : StV} (h : CpT w x W v') (ao : Option Addr) (n c : Nat) : CpT w x (W.setCell ⟨w.heap.size, 6, none⟩ (.slice ao n c)) { v' with so := ao, sn := n, sc := c } := ⟨h.bx.put6 ao n c, h.zset _ _, h.bl.setCell (by simp) _⟩
theorem CpT.st7 {w : World} {x : Stt} {W : World} {v' : StV} (h : CpT w x W v') (ao : Option Addr) (n c : Nat) : CpT w x (W.setCell ⟨w.heap.size, 7, none⟩ (.slice ao n c)) { v' with ro := ao, rn := n, rc := c } := ⟨h.bx.put7 ao n c, h.zset _ _, h.bl.setCell (by simp) _⟩
theorem CpT.st8 {w : World} {x : Stt} {W : World} {v' : StV} (h : CpT w x W v') (ao : Option Addr) (n c : Nat) (A : Nat → Option Addr) (N C : Nat → Nat) : CpT w x (W.setCell ⟨w.heap.size, 8, none⟩ (.slice ao n c)) { v' with to := ao, tn := n, tc := c, A := A, N := N, C := C } := ⟨h.bx.put8 ao n c A N C, h.zset _ _, h.bl.setCell (by simp) _⟩
def TwoB (b : Nat) (j : Nat) : Prop := j = b ∨ j = b + 1
theorem OwT.stays {b : Nat} {W W' : World} {ao : Option Addr} {n c : Nat} {l : List Slt} (h : OwT (b + 2) W ao n c l) (ho : Off (TwoB b) W W') : OwT (b + 2) W' ao n c l := h.off ho (fun x hx hf => by
  have := (h.row.lt x.block (by rw [hx]; rfl)).1
  rcases hf with hf | hf <;> omega)
theorem OwR.stays {b : Nat} {W W' : World} {ao : Option Addr} {n c : Nat} {l : List Rt} (h : OwR (b + 2) W ao n c l) (ho : Off (TwoB b) W W') : OwR (b + 2) W' ao n c l := h.off ho (fun x hx hf => by
  have := (h.row.lt x.block (by rw [hx]; rfl)).1
  rcases hf with hf | hf <;> omega)
theorem rows_off {B s n : Nat} {e : TypeId} {F : Nat → Prop} {W W' : World} {v : Value} {vs : List Value} (h : W.ownsRow B e s v n vs) (ho : Off F W W') (hn : ∀ g, v.ownBlock = some g → ¬ F g) : W'.ownsRow B e s v n vs := by
  refine ⟨h.1, ?_⟩
  rcases h.2 with hn' | ⟨g, cap', cur, hv, hg, hh, r⟩
  · exact Or.inl hn'
  · refine Or.inr ⟨g, cap', cur, hv, hg, ?_, r⟩
    rw [ho.block g (Array.getElem?_eq_some_iff.1 hh).1 (hn g (by rw [hv]; rfl))]
    exact hh
theorem OwRw.stays {b : Nat} {W W' : World} {ao : Option Addr} {n c : Nat} {A : Nat → Option Addr} {N C : Nat → Nat} {ds : List (List Int)} (h : OwRw (b + 2) W ao n c A N C ds) (ho : Off (TwoB b) W W') : OwRw (b + 2) W' ao n c A N C ds := by
  refine ⟨h.len, rows_off h.row ho (fun g hg hf => ?_), fun i hi => (h.own i hi).off ho (fun x hx hf => ?_), h.apart⟩
  · have := (h.row.lt g hg).1
    rcases hf with hf | hf <;> omega
  · have := ((h.own i hi).row.lt x.block (by rw [hx]; rfl)).1
    rcases hf with hf | hf <;> omega
end Go.Proofs.YtpbljjbhfhfmgaaDoor
