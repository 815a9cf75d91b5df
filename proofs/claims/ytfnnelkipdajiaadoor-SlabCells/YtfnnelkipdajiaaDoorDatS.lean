/- Rows of bytes of the call's own, one behind another. -/
import Derived.Test.YtfnnelkipdajiaaDoorMhA
namespace Go.Proofs.YtfnnelkipdajiaaDoor
set_option maxRecDepth 100000
open Go.RowKit
set_option linter.unusedVariables false
set_option linter.unusedSimpArgs false
set_option maxRecDepth 100000

theorem Own.grown {B : Nat} {w w' : World} {ao : Option Addr} {n c : Nat} {zs : List Int} (h : Own .u8 5 B w ao n c zs) {row : Option Nat} (hg : w.grownBy w' row) (hne : ∀ a, ao = some a → some a.block ≠ row) : Own .u8 5 B w' ao n c zs := by
  refine ⟨h.len, h.row.kept hg ?_⟩
  cases ao with
  | none => exact Or.inl rfl
  | some a => exact Or.inr (hne a rfl)
theorem own_far2 {B B' : Nat} {w : World} {ao bo : Option Addr} {n c n' c' : Nat} {zs : List Int} {vs : List Value} (h : Own .u8 5 B w ao n c zs) (h' : w.ownsRow B' 26 1 (.slice bo n' c') n' vs) : ∀ a, ao = some a → some a.block ≠ (Value.slice bo n' c').ownBlock := fun a e e2 => by
  cases bo with
  | none => cases e2
  | some b =>
    rcases h.row.2 with ⟨hv, _⟩ | ⟨g', cap', cur', hv, _, hh, _⟩
    · rw [e] at hv; simp at hv
    · rw [e] at hv
      simp only [Value.slice.injEq, Option.some.injEq] at hv
      have := rows_far h' rfl hh
      rw [hv.1] at e2
      simp [Value.ownBlock] at e2
      exact this e2
def sliV (A : Nat → Option Addr) (N C : Nat → Nat) (i : Nat) : Value := .slice (A i) (N i) (C i)
theorem rows_diff {w : World} {B B' : Nat} {e e' : TypeId} {s s' : Nat} {v v' : Value} {n n' : Nat} {xs xs' : List Value} (h : w.ownsRow B e s v n xs) (h' : w.ownsRow B' e' s' v' n' xs') (hne : e ≠ e') : v.ownBlock = none ∨ v.ownBlock ≠ v'.ownBlock := by
  rcases h.2 with ⟨rfl, _⟩ | ⟨g, cap, cur, rfl, _, hh, _⟩
  · exact Or.inl rfl
  · refine Or.inr fun e1 => ?_
    rcases h'.2 with ⟨rfl, _⟩ | ⟨g', cap', cur', rfl, _, hh', _⟩
    · cases e1
    · simp [Value.ownBlock] at e1
      rw [e1, hh'] at hh
      simp at hh
      exact hne hh.2.symm
/-- Rows of bytes of the call's own, in a row of the call's own. -/
structure OwR (B : Nat) (w : World) (ao : Option Addr) (k cap : Nat) (A : Nat → Option Addr) (N C : Nat → Nat) (ds : List (List Int)) : Prop where
  len : ds.length = k
  row : w.ownsRow B 26 1 (.slice ao k cap) k ((List.range k).map (sliV A N C))
  own : ∀ i, i < k → Own .u8 5 B w (A i) (N i) (C i) (da ds i)
  apart : ∀ i j, i < j → j < k → ∀ a b, A i = some a → A j = some b → a.block ≠ b.block
theorem owR_nil (B : Nat) (w : World) (A : Nat → Option Addr) (N C : Nat → Nat) : OwR B w none 0 0 A N C [] := ⟨rfl, World.ownsRow_nil _ _ _ _, fun i h => absurd h (by omega), fun i j _ h => absurd h (by omega)⟩
theorem OwR.below {B : Nat} {w w' : World} {ao : Option Addr} {k cap : Nat} {A : Nat → Option Addr} {N C : Nat → Nat} {ds : List (List Int)} (h : OwR B w ao k cap A N C ds) (hb : Below w.heap.size w w') : OwR B w' ao k cap A N C ds := ⟨h.len, ownsRow_below h.row hb, fun i hi => (h.own i hi).below hb, h.apart⟩
theorem OwR.mono {B B' : Nat} {w : World} {ao : Option Addr} {k cap : Nat} {A : Nat → Option Addr} {N C : Nat → Nat} {ds : List (List Int)} (h : OwR B w ao k cap A N C ds) (hB : B' ≤ B) : OwR B' w ao k cap A N C ds := ⟨h.len, ownsRow_mono h.row hB, fun i hi => (h.own i hi).mono hB, h.apart⟩
theorem da_left {l : List (List Int)} {s : List Int} {i : Nat} (h : i < l.length) : da (l ++ [s]) i = da l i := by simp [da, List.getD, List.getElem?_append_left h]
theorem da_last {l : List (List Int)} {s : List Int} {i : Nat} (h : l.length = i) : da (l ++ [s]) i = s := by subst h; simp [da, List.getD]
theorem OwR.next {B : Nat} {wr w2 w3 : World} {ao bo : Option Addr} {k cap c' : Nat} {A : Nat → Option Addr} {N C : Nat → Nat} {ds : List (List Int)} {d : List Int} {a : Option Addr} {m c : Nat} (h : OwR B wr ao k cap A N C ds) (hb : Below wr.heap.size wr w2) (hl : Own .u8 5 B w2 a m c d) (hfr : ∀ x, a = some x → wr.heap.size ≤ x.block)
    (hg : w2.grownBy w3 (Value.slice ao k cap).ownBlock) (ho : w3.ownsRow B 26 1 (.slice bo (k + 1) c') (k + 1) ((List.range k).map (sliV A N C) ++ [.slice a m c])) : OwR B w3 bo (k + 1) c' (upd A k a) (upd N k m) (upd C k c) (ds ++ [d]) := by
  have hr2 := ownsRow_below h.row hb
  have hlen := h.len
  refine ⟨by simp [hlen], ?_, fun i hi => ?_, fun i j hij hj x y ex ey => ?_⟩
  · have e : (List.range (k + 1)).map (sliV (upd A k a) (upd N k m) (upd C k c)) = (List.range k).map (sliV A N C) ++ [.slice a m c] := by
      rw [List.range_succ, List.map_append]
      congr 1
      · refine List.map_congr_left fun i hi => ?_
        have : i ≠ k := by have := List.mem_range.1 hi; omega
        simp [sliV, upd_other _ _ _ this]
      · simp [sliV, upd_same]
    rw [e]
    exact ho
  · by_cases e : i = k
    · subst e
      rw [upd_same, upd_same, upd_same, da_last hlen]
      exact hl.grown hg (own_far2 hl hr2)
    · rw [upd_other _ _ _ e, upd_other _ _ _ e, upd_other _ _ _ e, da_left (by omega)]
      have h1 := (h.own i (by omega)).below hb
      exact h1.grown hg (own_far2 h1 hr2)
  · have hold : ∀ i, i < k → ∀ b, A i = some b → b.block < wr.heap.size := fun i hi b e => ((h.own i hi).row.lt b.block (by rw [e]; rfl)).2
    by_cases e : j = k
    · subst e
      rw [upd_same] at ey
      rw [upd_other _ _ _ (by omega)] at ex
      have h1 := hold i (by omega) x ex
      have h2 := hfr y ey
      omega
    · rw [upd_other _ _ _ e] at ey
      rw [upd_other _ _ _ (by omega)] at ex
      exact h.apart i j hij (by omega) x y ex ey
theorem OwR.rd {B : Nat} {w : World} {ao : Option Addr} {k cap : Nat} {A : Nat → Option Addr} {N C : Nat → Nat} {ds : List (List Int)} (h : OwR B w ao k cap A N C ds) (hb : ∀ i, i < k → Bytes (da ds i)) : Rd w ao k cap A N C ds := by
  have hc : k ≤ cap ∧ (ao = none → cap = 0) := by
    rcases h.row.2 with ⟨hv, hn⟩ | ⟨g', cap', cur, hv, hg, hh, hc, _⟩
    · simp only [Value.slice.injEq] at hv
      exact ⟨by omega, fun _ => hv.2.2⟩
    · simp only [Value.slice.injEq] at hv
      obtain ⟨rfl, _, rfl⟩ := hv
      exact ⟨hc, fun e => by cases e⟩
  refine ⟨h.len, hc.1, hc.2, fun hn => ?_, fun i hi => (h.own i hi).sl, hb, fun i hi => (h.own i hi).cap_le.2⟩
  obtain ⟨g, c1, e⟩ := own_shape h.row hn
  simp only [Value.slice.injEq, true_and] at e
  obtain ⟨rfl, _⟩ := e
  refine ⟨g, 0, rfl, (h.row.lt g rfl).2, fun i hi => ?_⟩
  rw [Nat.zero_add, h.row.cellAt i (by omega)]
  simp [hi, sliV]
/-- Numbers are appended: the rows stay. -/
theorem OwR.grown {B B' : Nat} {w w' : World} {ao : Option Addr} {k cap : Nat} {A : Nat → Option Addr} {N C : Nat → Nat} {ds : List (List Int)} {v : Value} {n : Nat} {xs : List Value} {t : TypeId} {s : Nat} (h : OwR B w ao k cap A N C ds) (h' : w.ownsRow B' t s v n xs) (h1 : 26 ≠ t) (h2 : 5 ≠ t) (hg : w.grownBy w' v.ownBlock) : OwR B w' ao k cap A N C ds :=
  ⟨h.len, h.row.kept hg (rows_diff h.row h' h1), fun i hi => ⟨(h.own i hi).len, (h.own i hi).row.kept hg (rows_diff (h.own i hi).row h' h2)⟩, h.apart⟩
/-- Rows are appended: numbers stay. -/
theorem Own.ints {B B' : Nat} {w w' : World} {ao : Option Addr} {n c : Nat} {zs : List Int} {v : Value} {m s : Nat} {xs : List Value} {t : TypeId} (h : Own .i64 3 B w ao n c zs) (h' : w.ownsRow B' t s v m xs) (h1 : 3 ≠ t) (hg : w.grownBy w' v.ownBlock) : Own .i64 3 B w' ao n c zs := ⟨h.len, h.row.kept hg (rows_diff h.row h' h1)⟩
theorem OwR.cells {B : Nat} {w : World} {dt : Option Addr} {k dc : Nat} {A : Nat → Option Addr} {N C : Nat → Nat} {D : List (List Int)} (h : OwR B w dt k dc A N C D) : ((List.range k).map (sliV A N C)).length = k ∧ (∀ ad, dt = some ad → ∀ j u, ((List.range k).map (sliV A N C))[j]? = some u → w.cell? (ad.add j) = some u) ∧ (dt = none → k = 0 ∧ dc = 0) ∧ ∀ u ∈ (List.range k).map (sliV A N C), u.oneCell' = true := by
  refine ⟨by simp, fun ad e j u hu => ?_, fun e => ?_, fun u hu => ?_⟩
  · have hj : j < k := by
      have := (List.getElem?_eq_some_iff.1 hu).1
      simpa using this
    obtain ⟨g, c1, hg⟩ := own_shape h.row (by omega)
    simp only [Value.slice.injEq, true_and] at hg
    have h1 := h.row
    rw [hg.1] at h1
    rw [e] at hg
    obtain ⟨hg, _⟩ := hg
    cases hg
    rw [Addr.add_lit, Nat.zero_add, h1.cellAt j (by omega)]
    exact hu
  · rcases h.row.2 with ⟨hv, hn⟩ | ⟨g', cap', cur, hv, _⟩
    · simp only [Value.slice.injEq] at hv
      exact ⟨hn, hv.2.2⟩
    · rw [e] at hv
      simp at hv
  · obtain ⟨i, _, rfl⟩ := List.mem_map.1 hu
    rfl
end Go.Proofs.YtfnnelkipdajiaaDoor
