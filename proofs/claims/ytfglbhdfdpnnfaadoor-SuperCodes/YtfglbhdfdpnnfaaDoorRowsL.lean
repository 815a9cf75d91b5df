/- Rows handed to joistlaw01.Owned, any number of them. -/
import Derived.Test.YtfglbhdfdpnnfaaDoorRowed
namespace Go.Proofs.YtfglbhdfdpnnfaaDoor
set_option maxRecDepth 100000
open Go.RowKit

theorem rowsL {w : World} {B L : Nat} {ao : Nat → Option Addr} {n c g : Nat → Nat} {cs : Array Value} (h : ∀ i, i < L → Rowd w B (ao i) (n i) (c i) (g i)) (hd : ∀ i j, i < L → j < L → i ≠ j → 0 < c i → 0 < c j → g i ≠ g j)
    (hcs : ∀ i, i < L → cs[i]? = some (.slice (ao i) (n i) (c i))) : Rws B L ao n c g ∧ Stage (w.alloc (.cells cs 24)) w.heap.size L ao n c g 0 0 := by
  have hb : Below w.heap.size w (w.alloc (.cells cs 24)) := (Below.refl _ _).alloc (Nat.le_refl _) _
  refine ⟨⟨fun i hi => (h i hi).fits, fun i hi hc => ⟨((h i hi).spot hc).1, ((h i hi).spot hc).2.1⟩, hd⟩, fun j hj => ?_, fun j hj hc => ?_, fun j hj hc => Nat.ne_of_lt ((h j hj).spot hc).2.2⟩
  · rw [cell_of_row _ w.heap.size j cs 24 (0, 0) (heap_alloc_new _ _)]
    exact hcs j hj
  · obtain ⟨cur, hg', hs⟩ := (h j hj).fill hc
    refine ⟨cur, by rw [hb.block _ ((h j hj).spot hc).2.2]; exact hg', hs, fun t ht => ?_⟩
    split at ht <;> first | omega | (split at ht <;> omega)
theorem Rowd.mono {w : World} {B B' : Nat} {ao : Option Addr} {n c g : Nat} (h : Rowd w B ao n c g) (hB : B' ≤ B) : Rowd w B' ao n c g := ⟨h.fits, fun hc => ⟨(h.spot hc).1, Nat.le_trans hB (h.spot hc).2.1, (h.spot hc).2.2⟩, h.fill⟩
def blk : Option Addr → Nat
  | some a => a.block
  | none => 0
theorem Own.rowb {w : World} {B : Nat} {ao : Option Addr} {n c : Nat} {zs : List Int} (h : Own .u8 5 B w ao n c zs) : Rowd w B ao n c (blk ao) := by
  obtain ⟨g, hg⟩ := h.rowd
  by_cases hc : 0 < c
  · have e := (hg.spot hc).1
    subst e
    exact hg
  · exact ⟨hg.fits, fun h => absurd h hc, fun h => absurd h hc⟩
/-- One row. -/
theorem owned_one {w : World} {B : Nat} {ao : Option Addr} {n c g : Nat} (h : Rowd w B ao n c g) :
    Calls Tryd.prog 13 #[.slice (some ⟨w.heap.size, 0, none⟩) 1 1] (w.alloc (.cells #[.slice ao n c] 24)) fun e w' => e = .returned (.bool true) ∧ Off (fun k => k = g ∧ 0 < c) (w.alloc (.cells #[.slice ao n c] 24)) w' ∧ (0 < c → ∃ cur : Array Value, w'.heap[g]? = some (.cells cur 5 (0, 0)) ∧ cur.size = c) := by
  obtain ⟨h1, h2⟩ := rowsL (L := 1) (ao := fun _ => ao) (n := fun _ => n) (c := fun _ => c) (g := fun _ => g) (cs := #[.slice ao n c]) (fun _ _ => h) (fun i j hi hj hne => absurd (show i = j by omega) hne) (fun i hi => match i, hi with
      | 0, _ => rfl)
  exact (owned_off (F := fun k => k = g ∧ 0 < c) w.heap.size B 1 _ _ _ _ _ h1 h2 (by omega) (fun _ _ hc => ⟨rfl, hc⟩)).mono fun e w' ⟨a, b, d⟩ => ⟨a, b, fun hc => d 0 (by omega) hc⟩
def t2 {α : Type} (a b : α) : Nat → α
  | 0 => a
  | _ => b
/-- Two rows. -/
theorem owned_two {w : World} {B : Nat} {a0 a1 : Option Addr} {n0 n1 c0 c1 g0 g1 : Nat} (h0 : Rowd w B a0 n0 c0 g0) (h1 : Rowd w B a1 n1 c1 g1) (hd : 0 < c0 → 0 < c1 → g0 ≠ g1) :
    Calls Tryd.prog 13 #[.slice (some ⟨w.heap.size, 0, none⟩) 2 2] (w.alloc (.cells #[.slice a0 n0 c0, .slice a1 n1 c1] 24)) fun e w' => e = .returned (.bool true) ∧ Off (fun k => k = g0 ∧ 0 < c0 ∨ k = g1 ∧ 0 < c1) (w.alloc (.cells #[.slice a0 n0 c0, .slice a1 n1 c1] 24)) w' := by
  obtain ⟨r1, r2⟩ := rowsL (L := 2) (ao := t2 a0 a1) (n := t2 n0 n1) (c := t2 c0 c1) (g := t2 g0 g1) (cs := #[.slice a0 n0 c0, .slice a1 n1 c1])
    (fun i hi => match i, hi with
      | 0, _ => h0
      | 1, _ => h1)
    (fun i j hi hj hne hci hcj => match i, hi, j, hj with
      | 0, _, 0, _ => absurd rfl hne
      | 0, _, 1, _ => hd hci hcj
      | 1, _, 0, _ => (hd hcj hci).symm
      | 1, _, 1, _ => absurd rfl hne)
    (fun i hi => match i, hi with
      | 0, _ => rfl
      | 1, _ => rfl)
  exact (owned_off (F := fun k => k = g0 ∧ 0 < c0 ∨ k = g1 ∧ 0 < c1) w.heap.size B 2 _ _ _ _ _ r1 r2 (by omega) (fun i hi hc => match i, hi with
      | 0, _ => Or.inl ⟨rfl, hc⟩
      | 1, _ => Or.inr ⟨rfl, hc⟩)).mono fun e w' ⟨a, b, _⟩ => ⟨a, b⟩
end Go.Proofs.YtfglbhdfdpnnfaaDoor
