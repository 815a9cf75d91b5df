/- Rowed · RowsL · DatR: these texts, one behind another. -/
import Derived.Test.YtpbljjbhfhfmgaaGreatDoorMxLent
import Derived.Test.YtpbljjbhfhfmgaaGreatDoorMxOwned
import Derived.Test.YtpbljjbhfhfmgaaGreatDoorMxOff
import Derived.Test.YtpbljjbhfhfmgaaGreatDoorMxHandM
import Derived.Test.YtpbljjbhfhfmgaaGreatDoorMxInfo
/- Rows that lie in blocks of their own: what was lent among them. -/
namespace Go.Proofs.YtpbljjbhfhfmgaaGreatDoor
set_option maxRecDepth 100000
open Go.RowKit

theorem Lentd.rowd {w : World} {g n : Nat} {zs : List Int} (h : Lentd w g zs) (hn : zs.length = n) (hm : n ≤ 140737488355328) : Rowd w g (some ⟨g, 0, none⟩) n (n + 1) g :=
  ⟨⟨by omega, by omega⟩, fun _ => ⟨rfl, Nat.le_refl _, h.lt⟩, fun _ => ⟨_, h, by simp [hn]⟩⟩
theorem rowd_nil (w : World) (B : Nat) : Rowd w B none 0 0 0 := ⟨⟨Nat.le_refl _, by omega⟩, fun h => absurd h (by omega), fun h => absurd h (by omega)⟩

theorem sz {w a b : World} (h : Below w.heap.size w a) (k : Below a.heap.size a b) : w.heap.size ≤ b.heap.size := Nat.le_trans h.size k.size
theorem ap {w w' : World} {B B' : Nat} {a a' : Option Addr} {n n' c c' g g' : Nat} (h : Rowd w B a n c g) (k : Rowd w' B' a' n' c' g') (hc : 0 < c) (hc' : 0 < c') (hw : w.heap.size ≤ B') : g ≠ g' := by
  have h1 := (h.spot hc).2.2
  have h2 := (k.spot hc').2.1
  omega
end Go.Proofs.YtpbljjbhfhfmgaaGreatDoor
/- Rows handed to joistlaw01.Owned, any number of them. -/
namespace Go.Proofs.YtpbljjbhfhfmgaaGreatDoor
set_option maxRecDepth 100000
open Go.RowKit

theorem rowsL {w : World} {B L : Nat} {ao : Nat → Option Addr} {n c g : Nat → Nat} {cs : Array Value} (h : ∀ i, i < L → Rowd w B (ao i) (n i) (c i) (g i)) (hd : ∀ i j, i < L → j < L → i ≠ j → 0 < c i → 0 < c j → g i ≠ g j)
    (hcs : ∀ i, i < L → cs[i]? = some (.slice (ao i) (n i) (c i))) : Rws B L ao n c g ∧ Stage (w.alloc (.cells cs 48)) w.heap.size L ao n c g 0 0 := by
  have hb : Below w.heap.size w (w.alloc (.cells cs 48)) := (Below.refl _ _).alloc (Nat.le_refl _) _
  refine ⟨⟨fun i hi => (h i hi).fits, fun i hi hc => ⟨((h i hi).spot hc).1, ((h i hi).spot hc).2.1⟩, hd⟩, fun j hj => ?_, fun j hj hc => ?_, fun j hj hc => Nat.ne_of_lt ((h j hj).spot hc).2.2⟩
  · rw [cell_of_row _ w.heap.size j cs 48 (0, 0) (heap_alloc_new _ _)]
    exact hcs j hj
  · obtain ⟨cur, hg', hs⟩ := (h j hj).fill hc
    refine ⟨cur, by rw [hb.block _ ((h j hj).spot hc).2.2]; exact hg', hs, fun t ht => ?_⟩
    split at ht <;> first | omega | (split at ht <;> omega)
theorem Rowd.mono {w : World} {B B' : Nat} {ao : Option Addr} {n c g : Nat} (h : Rowd w B ao n c g) (hB : B' ≤ B) : Rowd w B' ao n c g := ⟨h.fits, fun hc => ⟨(h.spot hc).1, Nat.le_trans hB (h.spot hc).2.1, (h.spot hc).2.2⟩, h.fill⟩
def blk : Option Addr → Nat
  | some a => a.block
  | none => 0
theorem Own.rowb {w : World} {B : Nat} {ao : Option Addr} {n c : Nat} {zs : List Int} (h : Own .u8 5 B w ao n c zs) : Rowd w B ao n c (blk ao) := by
  obtain ⟨g, hg⟩ := h.rowd
  by_cases hc : 0 < c
  · have e := (hg.spot hc).1
    subst e
    exact hg
  · exact ⟨hg.fits, fun h => absurd h hc, fun h => absurd h hc⟩
/-- One row. -/
theorem owned_one {w : World} {B : Nat} {ao : Option Addr} {n c g : Nat} (h : Rowd w B ao n c g) :
    Calls Tryz.prog 36 #[.slice (some ⟨w.heap.size, 0, none⟩) 1 1] (w.alloc (.cells #[.slice ao n c] 48)) fun e w' => e = .returned (.bool true) ∧ Off (fun k => k = g ∧ 0 < c) (w.alloc (.cells #[.slice ao n c] 48)) w' ∧ (0 < c → ∃ cur : Array Value, w'.heap[g]? = some (.cells cur 5 (0, 0)) ∧ cur.size = c) := by
  obtain ⟨h1, h2⟩ := rowsL (L := 1) (ao := fun _ => ao) (n := fun _ => n) (c := fun _ => c) (g := fun _ => g) (cs := #[.slice ao n c]) (fun _ _ => h) (fun i j hi hj hne => absurd (show i = j by omega) hne) (fun i hi => match i, hi with
      | 0, _ => rfl)
  exact (owned_off (F := fun k => k = g ∧ 0 < c) w.heap.size B 1 _ _ _ _ _ h1 h2 (by omega) (fun _ _ hc => ⟨rfl, hc⟩)).mono fun e w' ⟨a, b, d⟩ => ⟨a, b, fun hc => d 0 (by omega) hc⟩
def t2 {α : Type} (a b : α) : Nat → α
  | 0 => a
  | _ => b
/-- Two rows. -/
theorem owned_two {w : World} {B : Nat} {a0 a1 : Option Addr} {n0 n1 c0 c1 g0 g1 : Nat} (h0 : Rowd w B a0 n0 c0 g0) (h1 : Rowd w B a1 n1 c1 g1) (hd : 0 < c0 → 0 < c1 → g0 ≠ g1) :
    Calls Tryz.prog 36 #[.slice (some ⟨w.heap.size, 0, none⟩) 2 2] (w.alloc (.cells #[.slice a0 n0 c0, .slice a1 n1 c1] 48)) fun e w' => e = .returned (.bool true) ∧ Off (fun k => k = g0 ∧ 0 < c0 ∨ k = g1 ∧ 0 < c1) (w.alloc (.cells #[.slice a0 n0 c0, .slice a1 n1 c1] 48)) w' := by
  obtain ⟨r1, r2⟩ := rowsL (L := 2) (ao := t2 a0 a1) (n := t2 n0 n1) (c := t2 c0 c1) (g := t2 g0 g1) (cs := #[.slice a0 n0 c0, .slice a1 n1 c1])
    (fun i hi => match i, hi with
      | 0, _ => h0
      | 1, _ => h1)
    (fun i j hi hj hne hci hcj => match i, hi, j, hj with
      | 0, _, 0, _ => absurd rfl hne
      | 0, _, 1, _ => hd hci hcj
      | 1, _, 0, _ => (hd hcj hci).symm
      | 1, _, 1, _ => absurd rfl hne)
    (fun i hi => match i, hi with
      | 0, _ => rfl
      | 1, _ => rfl)
  exact (owned_off (F := fun k => k = g0 ∧ 0 < c0 ∨ k = g1 ∧ 0 < c1) w.heap.size B 2 _ _ _ _ _ r1 r2 (by omega) (fun i hi hc => match i, hi with
      | 0, _ => Or.inl ⟨rfl, hc⟩
      | 1, _ => Or.inr ⟨rfl, hc⟩)).mono fun e w' ⟨a, b, _⟩ => ⟨a, b⟩
end Go.Proofs.YtpbljjbhfhfmgaaGreatDoor
/- Rows of bytes of the call's own. -/
namespace Go.Proofs.YtpbljjbhfhfmgaaGreatDoor
set_option maxRecDepth 100000
open Go.RowKit
set_option linter.unusedVariables false
set_option linter.unusedSimpArgs false
set_option maxRecDepth 100000

theorem Tryz.info48 : (Tryz.prog.info? 48).map (fun i => (i.zero, i.size, i.bytes)) = some (some (.slice none 0 0), 1, 24) := by kernel_rfl
/-- Rows of bytes of the call's own in a row of the call's own, the first k of them. -/
structure OwD (B : Nat) (w : World) (ao : Option Addr) (n cap : Nat) (A : Nat → Option Addr) (N C : Nat → Nat) (ds : List (List Int)) (k : Nat) : Prop where
  row : ∃ vs, w.ownsRow B 48 1 (.slice ao n cap) n vs ∧ ∀ i, i < k → vs[i]? = some (.slice (A i) (N i) (C i))
  own : ∀ i, i < k → Own .u8 5 B w (A i) (N i) (C i) (da ds i)
  far : ∀ i, i < k → ∀ a b, ao = some a → A i = some b → b.block ≠ a.block
  apart : ∀ i j, i < j → j < k → ∀ a b, A i = some a → A j = some b → a.block ≠ b.block
theorem ownsRow_below {B : Nat} {e : TypeId} {s : Nat} {w w' : World} {v : Value} {n : Nat} {xs : List Value} (h : w.ownsRow B e s v n xs) (hb : Below w.heap.size w w') : w'.ownsRow B e s v n xs := by
  refine ⟨h.1, ?_⟩
  rcases h.2 with hn | ⟨g, cap', cur, hv, hg, hh, r⟩
  · exact Or.inl hn
  · refine Or.inr ⟨g, cap', cur, hv, hg, ?_, r⟩
    rw [hb.block g (Array.getElem?_eq_some_iff.1 hh).1]
    exact hh
theorem OwD.below {B : Nat} {w w' : World} {ao : Option Addr} {n cap : Nat} {A : Nat → Option Addr} {N C : Nat → Nat} {ds : List (List Int)} {k : Nat} (h : OwD B w ao n cap A N C ds k) (hb : Below w.heap.size w w') : OwD B w' ao n cap A N C ds k := by
  obtain ⟨vs, h1, h2⟩ := h.row
  exact ⟨⟨vs, ownsRow_below h1 hb, h2⟩, fun i hi => (h.own i hi).below hb, h.far, h.apart⟩
theorem ownsRow_mono {B B' : Nat} {e : TypeId} {s : Nat} {w : World} {v : Value} {n : Nat} {xs : List Value} (h : w.ownsRow B e s v n xs) (hB : B' ≤ B) : w.ownsRow B' e s v n xs := by
  refine ⟨h.1, ?_⟩
  rcases h.2 with hn | ⟨g, cap', cur, hv, hg, r⟩
  · exact Or.inl hn
  · exact Or.inr ⟨g, cap', cur, hv, Nat.le_trans hB hg, r⟩
theorem OwD.mono {B B' : Nat} {w : World} {ao : Option Addr} {n cap : Nat} {A : Nat → Option Addr} {N C : Nat → Nat} {ds : List (List Int)} {k : Nat} (h : OwD B w ao n cap A N C ds k) (hB : B' ≤ B) : OwD B' w ao n cap A N C ds k := by
  obtain ⟨vs, h1, h2⟩ := h.row
  exact ⟨⟨vs, ownsRow_mono h1 hB, h2⟩, fun i hi => (h.own i hi).mono hB, h.far, h.apart⟩
theorem OwD.rd {B : Nat} {w : World} {g n cap : Nat} {A : Nat → Option Addr} {N C : Nat → Nat} {ds : List (List Int)} (h : OwD B w (some ⟨g, 0, none⟩) n cap A N C ds n) (hl : ds.length = n) (hb : ∀ i, i < n → Bytes (da ds i)) : Rd w (some ⟨g, 0, none⟩) n cap A N C ds := by
  obtain ⟨vs, h1, h2⟩ := h.row
  have hc : n ≤ cap := by
    rcases h1.2 with ⟨hv, hn⟩ | ⟨g', cap', cur, hv, hg, hh, hc, _⟩
    · cases hv
    · simp only [Value.slice.injEq] at hv
      obtain ⟨_, _, rfl⟩ := hv
      exact hc
  refine ⟨hl, hc, (by intro e; cases e), fun hn => ⟨g, 0, rfl, (h1.lt g rfl).2, fun i hi => ?_⟩, fun i hi => (h.own i hi).sl, hb, fun i hi => (h.own i hi).cap_le.2⟩
  rw [Nat.zero_add, h1.cellAt i (by omega)]
  exact h2 i hi
def upd {α : Type} (F : Nat → α) (k : Nat) (v : α) : Nat → α := fun i => if i = k then v else F i
theorem upd_same {α : Type} (F : Nat → α) (k : Nat) (v : α) : upd F k v k = v := if_pos rfl
theorem upd_other {α : Type} (F : Nat → α) (k : Nat) (v : α) {i : Nat} (h : i ≠ k) : upd F k v i = F i := if_neg h
/-- One row more. -/
theorem OwD.next {B : Nat} {wr w2 : World} {g n cap : Nat} {A : Nat → Option Addr} {N C : Nat → Nat} {ds : List (List Int)} {k : Nat} (h : OwD B wr (some ⟨g, 0, none⟩) n cap A N C ds k) (hb : Below wr.heap.size wr w2) {a : Option Addr} {m c : Nat} (ho : Own .u8 5 wr.heap.size w2 a m c (da ds k)) (hk : k < n) (hB : B ≤ wr.heap.size) :
    OwD B (w2.setCell ⟨g, k, none⟩ (.slice a m c)) (some ⟨g, 0, none⟩) n cap (upd A k a) (upd N k m) (upd C k c) ds (k + 1) := by
  obtain ⟨vs, h1, h2⟩ := h.row
  have h1' := ownsRow_below h1 hb
  have hgw : g < wr.heap.size := (h1.lt g rfl).2
  have hvl : vs.length = n := by have := h1.1; omega
  have hof : Off (fun j => j = g) w2 (w2.setCell ⟨g, k, none⟩ (.slice a m c)) := (Off.refl _ _).setCell _ _ rfl
  have hnb : ∀ b, a = some b → wr.heap.size ≤ b.block ∧ b.block < w2.heap.size := fun b e => ho.row.lt b.block (by rw [e]; rfl)
  have hold : ∀ i, i < k → ∀ b, A i = some b → b.block < wr.heap.size := fun i hi b e => ((h.own i hi).row.lt b.block (by rw [e]; rfl)).2
  refine ⟨⟨_, (h1'.stored k (.slice a m c)).1, fun i hi => ?_⟩, fun i hi => ?_, fun i hi x y ex ey => ?_, fun i j hij hj x y ex ey => ?_⟩
  · by_cases e : i = k
    · subst e
      rw [upd_same, upd_same, upd_same, List.getElem?_set_self (by omega)]
    · rw [upd_other _ _ _ e, upd_other _ _ _ e, upd_other _ _ _ e, List.getElem?_set_ne (fun x => e x.symm)]
      exact h2 i (by omega)
  · by_cases e : i = k
    · subst e
      rw [upd_same, upd_same, upd_same]
      exact (ho.mono hB).off hof (fun b e => by have := (hnb b e).1; omega)
    · rw [upd_other _ _ _ e, upd_other _ _ _ e, upd_other _ _ _ e]
      exact ((h.own i (by omega)).below hb).off hof (fun b eb => h.far i (by omega) _ _ rfl eb)
  · cases ex
    by_cases e : i = k
    · subst e
      rw [upd_same] at ey
      have := (hnb y ey).1
      simp only
      omega
    · rw [upd_other _ _ _ e] at ey
      exact h.far i (by omega) _ _ rfl ey
  · by_cases e : j = k
    · subst e
      rw [upd_same] at ey
      rw [upd_other _ _ _ (by omega)] at ex
      have h3 := (hnb y ey).1
      have h4 := hold i (by omega) x ex
      omega
    · rw [upd_other _ _ _ e] at ey
      rw [upd_other _ _ _ (by omega)] at ex
      exact h.apart i j hij (by omega) x y ex ey
theorem made_rows (n : Nat) : (madeCells #[Value.slice none 0 0] n).toList = List.replicate n (Value.slice none 0 0) := by rw [toList_madeCells_one]
end Go.Proofs.YtpbljjbhfhfmgaaGreatDoor
