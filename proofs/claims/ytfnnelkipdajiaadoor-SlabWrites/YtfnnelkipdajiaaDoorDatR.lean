/- Rows of bytes of the call's own. -/
import Derived.Test.YtfnnelkipdajiaaDoorRdR
import Derived.Test.YtfnnelkipdajiaaDoorPart
import Derived.Test.YtfnnelkipdajiaaDoorInfo
import Derived.Test.YtfnnelkipdajiaaDoorRowsL
namespace Go.Proofs.YtfnnelkipdajiaaDoor
set_option maxRecDepth 100000
open Go.RowKit
set_option linter.unusedVariables false
set_option linter.unusedSimpArgs false
set_option maxRecDepth 100000

theorem Tryd.info26 : (Tryd.prog.info? 26).map (fun i => (i.zero, i.size, i.bytes)) = some (some (.slice none 0 0), 1, 24) := by kernel_rfl
/-- Rows of bytes of the call's own in a row of the call's own, the first k of them. -/
structure OwD (B : Nat) (w : World) (ao : Option Addr) (n cap : Nat) (A : Nat → Option Addr) (N C : Nat → Nat) (ds : List (List Int)) (k : Nat) : Prop where
  row : ∃ vs, w.ownsRow B 26 1 (.slice ao n cap) n vs ∧ ∀ i, i < k → vs[i]? = some (.slice (A i) (N i) (C i))
  own : ∀ i, i < k → Own .u8 5 B w (A i) (N i) (C i) (da ds i)
  far : ∀ i, i < k → ∀ a b, ao = some a → A i = some b → b.block ≠ a.block
  apart : ∀ i j, i < j → j < k → ∀ a b, A i = some a → A j = some b → a.block ≠ b.block
theorem ownsRow_below {B : Nat} {e : TypeId} {s : Nat} {w w' : World} {v : Value} {n : Nat} {xs : List Value} (h : w.ownsRow B e s v n xs) (hb : Below w.heap.size w w') : w'.ownsRow B e s v n xs := by
  refine ⟨h.1, ?_⟩
  rcases h.2 with hn | ⟨g, cap', cur, hv, hg, hh, r⟩
  · exact Or.inl hn
  · refine Or.inr ⟨g, cap', cur, hv, hg, ?_, r⟩
    rw [hb.block g (Array.getElem?_eq_some_iff.1 hh).1]
    exact hh
theorem OwD.below {B : Nat} {w w' : World} {ao : Option Addr} {n cap : Nat} {A : Nat → Option Addr} {N C : Nat → Nat} {ds : List (List Int)} {k : Nat} (h : OwD B w ao n cap A N C ds k) (hb : Below w.heap.size w w') : OwD B w' ao n cap A N C ds k := by
  obtain ⟨vs, h1, h2⟩ := h.row
  exact ⟨⟨vs, ownsRow_below h1 hb, h2⟩, fun i hi => (h.own i hi).below hb, h.far, h.apart⟩
theorem ownsRow_mono {B B' : Nat} {e : TypeId} {s : Nat} {w : World} {v : Value} {n : Nat} {xs : List Value} (h : w.ownsRow B e s v n xs) (hB : B' ≤ B) : w.ownsRow B' e s v n xs := by
  refine ⟨h.1, ?_⟩
  rcases h.2 with hn | ⟨g, cap', cur, hv, hg, r⟩
  · exact Or.inl hn
  · exact Or.inr ⟨g, cap', cur, hv, Nat.le_trans hB hg, r⟩
theorem OwD.mono {B B' : Nat} {w : World} {ao : Option Addr} {n cap : Nat} {A : Nat → Option Addr} {N C : Nat → Nat} {ds : List (List Int)} {k : Nat} (h : OwD B w ao n cap A N C ds k) (hB : B' ≤ B) : OwD B' w ao n cap A N C ds k := by
  obtain ⟨vs, h1, h2⟩ := h.row
  exact ⟨⟨vs, ownsRow_mono h1 hB, h2⟩, fun i hi => (h.own i hi).mono hB, h.far, h.apart⟩
theorem OwD.rd {B : Nat} {w : World} {g n cap : Nat} {A : Nat → Option Addr} {N C : Nat → Nat} {ds : List (List Int)} (h : OwD B w (some ⟨g, 0, none⟩) n cap A N C ds n) (hl : ds.length = n) (hb : ∀ i, i < n → Bytes (da ds i)) : Rd w (some ⟨g, 0, none⟩) n cap A N C ds := by
  obtain ⟨vs, h1, h2⟩ := h.row
  have hc : n ≤ cap := by
    rcases h1.2 with ⟨hv, hn⟩ | ⟨g', cap', cur, hv, hg, hh, hc, _⟩
    · cases hv
    · simp only [Value.slice.injEq] at hv
      obtain ⟨_, _, rfl⟩ := hv
      exact hc
  refine ⟨hl, hc, (by intro e; cases e), fun hn => ⟨g, 0, rfl, (h1.lt g rfl).2, fun i hi => ?_⟩, fun i hi => (h.own i hi).sl, hb, fun i hi => (h.own i hi).cap_le.2⟩
  rw [Nat.zero_add, h1.cellAt i (by omega)]
  exact h2 i hi
def upd {α : Type} (F : Nat → α) (k : Nat) (v : α) : Nat → α := fun i => if i = k then v else F i
theorem upd_same {α : Type} (F : Nat → α) (k : Nat) (v : α) : upd F k v k = v := if_pos rfl
theorem upd_other {α : Type} (F : Nat → α) (k : Nat) (v : α) {i : Nat} (h : i ≠ k) : upd F k v i = F i := if_neg h
/-- One row more. -/
theorem OwD.next {B : Nat} {wr w2 : World} {g n cap : Nat} {A : Nat → Option Addr} {N C : Nat → Nat} {ds : List (List Int)} {k : Nat} (h : OwD B wr (some ⟨g, 0, none⟩) n cap A N C ds k) (hb : Below wr.heap.size wr w2) {a : Option Addr} {m c : Nat} (ho : Own .u8 5 wr.heap.size w2 a m c (da ds k)) (hk : k < n) (hB : B ≤ wr.heap.size) :
    OwD B (w2.setCell ⟨g, k, none⟩ (.slice a m c)) (some ⟨g, 0, none⟩) n cap (upd A k a) (upd N k m) (upd C k c) ds (k + 1) := by
  obtain ⟨vs, h1, h2⟩ := h.row
  have h1' := ownsRow_below h1 hb
  have hgw : g < wr.heap.size := (h1.lt g rfl).2
  have hvl : vs.length = n := by have := h1.1; omega
  have hof : Off (fun j => j = g) w2 (w2.setCell ⟨g, k, none⟩ (.slice a m c)) := (Off.refl _ _).setCell _ _ rfl
  have hnb : ∀ b, a = some b → wr.heap.size ≤ b.block ∧ b.block < w2.heap.size := fun b e => ho.row.lt b.block (by rw [e]; rfl)
  have hold : ∀ i, i < k → ∀ b, A i = some b → b.block < wr.heap.size := fun i hi b e => ((h.own i hi).row.lt b.block (by rw [e]; rfl)).2
  refine ⟨⟨_, (h1'.stored k (.slice a m c)).1, fun i hi => ?_⟩, fun i hi => ?_, fun i hi x y ex ey => ?_, fun i j hij hj x y ex ey => ?_⟩
  · by_cases e : i = k
    · subst e
      rw [upd_same, upd_same, upd_same, List.getElem?_set_self (by omega)]
    · rw [upd_other _ _ _ e, upd_other _ _ _ e, upd_other _ _ _ e, List.getElem?_set_ne (fun x => e x.symm)]
      exact h2 i (by omega)
  · by_cases e : i = k
    · subst e
      rw [upd_same, upd_same, upd_same]
      exact (ho.mono hB).off hof (fun b e => by have := (hnb b e).1; omega)
    · rw [upd_other _ _ _ e, upd_other _ _ _ e, upd_other _ _ _ e]
      exact ((h.own i (by omega)).below hb).off hof (fun b eb => h.far i (by omega) _ _ rfl eb)
  · cases ex
    by_cases e : i = k
    · subst e
      rw [upd_same] at ey
      have := (hnb y ey).1
      simp only
      omega
    · rw [upd_other _ _ _ e] at ey
      exact h.far i (by omega) _ _ rfl ey
  · by_cases e : j = k
    · subst e
      rw [upd_same] at ey
      rw [upd_other _ _ _ (by omega)] at ex
      have h3 := (hnb y ey).1
      have h4 := hold i (by omega) x ex
      omega
    · rw [upd_other _ _ _ e] at ey
      rw [upd_other _ _ _ (by omega)] at ex
      exact h.apart i j hij (by omega) x y ex ey
theorem made_rows (n : Nat) : (madeCells #[Value.slice none 0 0] n).toList = List.replicate n (Value.slice none 0 0) := by rw [toList_madeCells_one]
end Go.Proofs.YtfnnelkipdajiaaDoor
