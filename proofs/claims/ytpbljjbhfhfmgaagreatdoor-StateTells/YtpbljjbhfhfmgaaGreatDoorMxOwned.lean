/- Owned: these texts, one behind another. -/
import Derived.Test.YtpbljjbhfhfmgaaGreatDoorMxHandM
import Derived.Test.YtpbljjbhfhfmgaaGreatDoorMxOff
import Derived.Test.YtpbljjbhfhfmgaaGreatDoorRows
import Derived.Deep.QuietTactic
import Derived.BigQuiet
/- joistlaw01.Owned by its contract: rows that lie in blocks of their own. -/
namespace Go.Proofs.YtpbljjbhfhfmgaaGreatDoor
set_option maxRecDepth 100000
open Go.RowKit

/-- A block of so many cells, of which the first k hold the byte v. -/
def Fill (w : World) (g c : Nat) (v : Int) (k : Nat) : Prop := ∃ cur : Array Value, w.heap[g]? = some (.cells cur 5 (0, 0)) ∧ cur.size = c ∧ ∀ t, t < k → cur[t]? = some (.int .u8 v)

/-- L rows, each without room or at the head of a block of its own, from block B on. -/
structure Rws (B L : Nat) (ao : Nat → Option Addr) (n c g : Nat → Nat) : Prop where
  fits : ∀ i, i < L → n i ≤ c i ∧ c i ≤ 9223372036854775807
  spot : ∀ i, i < L → 0 < c i → ao i = some ⟨g i, 0, none⟩ ∧ B ≤ g i
  apart : ∀ i j, i < L → j < L → i ≠ j → 0 < c i → 0 < c j → g i ≠ g j

theorem Fill.cell {w : World} {g c k : Nat} {v : Int} (h : Fill w g c v k) (t : Nat) (ht : t < c) : ∃ u, w.cell? ⟨g, t, none⟩ = some u := by
  obtain ⟨cur, hg, hs, _⟩ := h
  refine ⟨cur[t]'(by omega), ?_⟩
  rw [cell_of_row w g t cur 5 (0, 0) hg]
  simp [hs, ht]
theorem Fill.full {w : World} {g c k : Nat} {v : Int} (h : Fill w g c v k) (t : Nat) (ht : t < k) : w.cell? ⟨g, t, none⟩ = some (.int .u8 v) := by
  obtain ⟨cur, hg, hs, hf⟩ := h
  rw [cell_of_row w g t cur 5 (0, 0) hg]
  exact hf t ht
theorem Fill.free {w : World} {g c k : Nat} {v : Int} (h : Fill w g c v k) (t : Nat) : w.frozen? ⟨g, t, none⟩ = false := by
  obtain ⟨cur, hg, _⟩ := h
  exact frozen_of_row w g t cur 5 hg
theorem Fill.zero {w : World} {g c k : Nat} {v u : Int} (h : Fill w g c v k) : Fill w g c u 0 := by
  obtain ⟨cur, hg, hs, _⟩ := h
  exact ⟨cur, hg, hs, fun t ht => absurd ht (by omega)⟩
theorem Fill.step {w : World} {g c k : Nat} {v : Int} (h : Fill w g c v k) (hk : k < c) : Fill (w.setCell ⟨g, k, none⟩ (.int .u8 v)) g c v (k + 1) := by
  obtain ⟨cur, hg, hs, hf⟩ := h
  refine ⟨_, heap_setCell_same w g k cur 5 _ hg, by simpa using hs, fun t ht => ?_⟩
  rw [Array.getElem?_setIfInBounds]
  by_cases e : k = t
  · rw [if_pos e, if_pos (by omega)]
  · rw [if_neg e]
    exact hf t (by omega)
theorem Fill.other {w : World} {g c k : Nat} {v : Int} (h : Fill w g c v k) (a : Addr) (u : Value) (hne : g ≠ a.block) : Fill (w.setCell a u) g c v k := by
  obtain ⟨cur, hg, r⟩ := h
  exact ⟨cur, by rw [heap_setCell_other w a g u hne]; exact hg, r⟩
theorem Fill.drewN {w : World} {g c k : Nat} {v : Int} (h : Fill w g c v k) (m : Nat) : Fill (w.drewN m) g c v k := h

/-- What stands in the blocks while row i is being filled, k of its cells done. -/
def Stage (w : World) (R L : Nat) (ao : Nat → Option Addr) (n c g : Nat → Nat) (i k : Nat) : Prop :=
  (∀ j, j < L → w.cell? ⟨R, j, none⟩ = some (.slice (ao j) (n j) (c j))) ∧
  (∀ j, j < L → 0 < c j → Fill w (g j) (c j) ((j : Int) + 1) (if j < i then c j else if j = i then k else 0)) ∧ (∀ j, j < L → 0 < c j → g j ≠ R)

theorem Stage.step {w : World} {R B L : Nat} {ao : Nat → Option Addr} {n c g : Nat → Nat} {i k : Nat} (h : Stage w R L ao n c g i k) (hr : Rws B L ao n c g) (hi : i < L) (hk : k < c i) :
    Stage (w.setCell ⟨g i, k, none⟩ (.int .u8 ((i : Int) + 1))) R L ao n c g i (k + 1) := by
  obtain ⟨h1, h2, h3⟩ := h
  refine ⟨fun j hj => ?_, fun j hj hc => ?_, h3⟩
  · rw [World.cell?_setCell_other]
    · exact h1 j hj
    · intro e
      simp only [Addr.mk.injEq] at e
      exact h3 i hi (by omega) e.1
  · by_cases e : j = i
    · subst e
      have := h2 j hj hc
      rw [if_neg (by omega), if_pos rfl] at this ⊢
      exact this.step hk
    · have := h2 j hj hc
      rw [if_neg e] at this ⊢
      exact this.other _ _ (hr.apart j i hj hi e hc (by omega))
theorem Stage.turn {w : World} {R L : Nat} {ao : Nat → Option Addr} {n c g : Nat → Nat} {i : Nat} (h : Stage w R L ao n c g i (c i)) : Stage w R L ao n c g (i + 1) 0 := by
  obtain ⟨h1, h2, h3⟩ := h
  refine ⟨h1, fun j hj hc => ?_, h3⟩
  have := h2 j hj hc
  by_cases e : j < i
  · rw [if_pos e] at this; rw [if_pos (by omega)]; exact this
  · by_cases e2 : j = i
    · subst e2; rw [if_neg e, if_pos rfl] at this; rw [if_pos (by omega)]; exact this
    · rw [if_neg e, if_neg e2] at this; rw [if_neg (by omega)]; split <;> exact this
theorem Stage.drewN {w : World} {R L : Nat} {ao : Nat → Option Addr} {n c g : Nat → Nat} {i k : Nat} (h : Stage w R L ao n c g i k) (m : Nat) : Stage (w.drewN m) R L ao n c g i k := h

/-- A row without room, or at the head of a block of its own. -/
structure Rowd (w : World) (B : Nat) (ao : Option Addr) (n c g : Nat) : Prop where
  fits : n ≤ c ∧ c ≤ 9223372036854775807
  spot : 0 < c → ao = some ⟨g, 0, none⟩ ∧ B ≤ g ∧ g < w.heap.size
  fill : 0 < c → ∃ cur : Array Value, w.heap[g]? = some (.cells cur 5 (0, 0)) ∧ cur.size = c
theorem Rowd.below {w w' : World} {B : Nat} {ao : Option Addr} {n c g : Nat} (h : Rowd w B ao n c g) (hb : Below w.heap.size w w') : Rowd w' B ao n c g := by
  refine ⟨h.fits, fun hc => ?_, fun hc => ?_⟩
  · have := h.spot hc
    have := hb.size
    exact ⟨(h.spot hc).1, (h.spot hc).2.1, by omega⟩
  · rw [hb.block g (h.spot hc).2.2]
    exact h.fill hc
theorem Own.rowd {w : World} {B : Nat} {ao : Option Addr} {n c : Nat} {zs : List Int} (h : Own .u8 5 B w ao n c zs) : ∃ g, Rowd w B ao n c g := by
  have hf := h.cap_le
  rcases h.row.2 with ⟨hv, hn⟩ | ⟨g, c', cur, hv, hg, hh, hc, hm, hs, r⟩
  · simp only [Value.slice.injEq] at hv
    obtain ⟨rfl, rfl, rfl⟩ := hv
    exact ⟨0, hf, fun h => absurd h (by omega), fun h => absurd h (by omega)⟩
  · simp only [Value.slice.injEq] at hv
    obtain ⟨rfl, _, rfl⟩ := hv
    exact ⟨g, hf, fun _ => ⟨rfl, hg, (Array.getElem?_eq_some_iff.1 hh).1⟩, fun _ => ⟨cur, hh, by omega⟩⟩
def f3 {α : Type} (a b c : α) : Nat → α
  | 0 => a
  | 1 => b
  | _ => c
theorem rows3 {w : World} {B B0 B1 B2 : Nat} {a0 a1 a2 : Option Addr} {n0 n1 n2 c0 c1 c2 g0 g1 g2 : Nat} (h0 : Rowd w B0 a0 n0 c0 g0) (h1 : Rowd w B1 a1 n1 c1 g1) (h2 : Rowd w B2 a2 n2 c2 g2) (e0 : B ≤ B0) (e1 : B ≤ B1) (e2 : B ≤ B2)
    (d01 : 0 < c0 → 0 < c1 → g0 ≠ g1) (d02 : 0 < c0 → 0 < c2 → g0 ≠ g2) (d12 : 0 < c1 → 0 < c2 → g1 ≠ g2) :
    Rws B 3 (f3 a0 a1 a2) (f3 n0 n1 n2) (f3 c0 c1 c2) (f3 g0 g1 g2) ∧
    Stage (w.alloc (.cells #[.slice a0 n0 c0, .slice a1 n1 c1, .slice a2 n2 c2] 48)) w.heap.size 3 (f3 a0 a1 a2) (f3 n0 n1 n2) (f3 c0 c1 c2) (f3 g0 g1 g2) 0 0 := by
  have hb : Below w.heap.size w (w.alloc (.cells #[.slice a0 n0 c0, .slice a1 n1 c1, .slice a2 n2 c2] 48)) := (Below.refl _ _).alloc (Nat.le_refl _) _
  refine ⟨⟨fun i hi => ?_, fun i hi hc => ?_, fun i j hi hj hne hci hcj => ?_⟩, fun j hj => ?_, fun j hj hc => ?_, fun j hj hc => ?_⟩
  · match i, hi with
    | 0, _ => exact h0.fits
    | 1, _ => exact h1.fits
    | 2, _ => exact h2.fits
  · match i, hi with
    | 0, _ => have := h0.spot hc; exact ⟨this.1, Nat.le_trans e0 this.2.1⟩
    | 1, _ => have := h1.spot hc; exact ⟨this.1, Nat.le_trans e1 this.2.1⟩
    | 2, _ => have := h2.spot hc; exact ⟨this.1, Nat.le_trans e2 this.2.1⟩
  · match i, hi, j, hj with
    | 0, _, 0, _ => exact absurd rfl hne
    | 0, _, 1, _ => exact d01 hci hcj
    | 0, _, 2, _ => exact d02 hci hcj
    | 1, _, 0, _ => exact (d01 hcj hci).symm
    | 1, _, 1, _ => exact absurd rfl hne
    | 1, _, 2, _ => exact d12 hci hcj
    | 2, _, 0, _ => exact (d02 hcj hci).symm
    | 2, _, 1, _ => exact (d12 hcj hci).symm
    | 2, _, 2, _ => exact absurd rfl hne
  · match j, hj with
    | 0, _ => simp [f3]
    | 1, _ => simp [f3]
    | 2, _ => simp [f3]
  · have mk : ∀ (g c : Nat), (∃ cur : Array Value, w.heap[g]? = some (.cells cur 5 (0, 0)) ∧ cur.size = c) → g < w.heap.size → Fill (w.alloc (.cells #[.slice a0 n0 c0, .slice a1 n1 c1, .slice a2 n2 c2] 48)) g c ((j : Int) + 1) (if j < 0 then c else if j = 0 then 0 else 0) := fun g c hx hg => by
      obtain ⟨cur, hg', hs⟩ := hx
      refine ⟨cur, by rw [hb.block g hg]; exact hg', hs, fun t ht => ?_⟩
      split at ht <;> first | omega | (split at ht <;> omega)
    match j, hj with
    | 0, _ => exact mk _ _ (h0.fill hc) (h0.spot hc).2.2
    | 1, _ => exact mk _ _ (h1.fill hc) (h1.spot hc).2.2
    | 2, _ => exact mk _ _ (h2.fill hc) (h2.spot hc).2.2
  · match j, hj with
    | 0, _ => exact Nat.ne_of_lt (h0.spot hc).2.2
    | 1, _ => exact Nat.ne_of_lt (h1.spot hc).2.2
    | 2, _ => exact Nat.ne_of_lt (h2.spot hc).2.2

/-- Nothing but the rows themselves turns. -/
theorem owned_off {F : Nat → Prop} (R B L : Nat) (ao : Nat → Option Addr) (n c g : Nat → Nat) (w : World) (hr : Rws B L ao n c g) (hs : Stage w R L ao n c g 0 0) (hL : L ≤ 200) (hF : ∀ i, i < L → 0 < c i → F (g i)) :
    Calls Tryz.prog 36 #[.slice (some ⟨R, 0, none⟩) L L] w fun e w' => e = .returned (.bool true) ∧ Off F w w' ∧ ∀ t, t < L → 0 < c t → ∃ cur : Array Value, w'.heap[g t]? = some (.cells cur 5 (0, 0)) ∧ cur.size = c t := by
  go_enter Tryz.func36, Tryz.ntmps36
  go_wp2
  go_loopw [3] (fun t wr => ∃ i : Nat, i ≤ L ∧ t = .int .i64 i ∧ Stage wr R L ao n c g i 0 ∧ Off F w wr) (fun t _ => L - (intOf t).toNat)
  case atStart => exact ⟨0, Nat.zero_le _, rfl, hs, Off.refl _ _⟩
  case round =>
    obtain ⟨i, hi, rfl, hst, hb⟩ := hrel
    by_cases hlt : i < L
    · have hcell := hst.1 i hlt
      obtain ⟨hf1, hf2⟩ := hr.fits i hlt
      generalize hA : ao i = A at *
      generalize hN : n i = N at *
      have hii : (i : Int) < (L : Int) := by omega
      go_wp2
      go_quiet (fail)
      go_wp2
      have hst' := hst.drewN nq
      have hb' := hb.drewN nq
      have hspot := hr.spot i hlt
      rw [hA] at hspot
      have HT : Hid (Stage (wr.drewN nq) R L ao n c g i 0) := hst'
      clear hst hst' hcell
      generalize hC : c i = C at *
      go_loopw [5] (fun t w2 => ∃ k : Nat, k ≤ C ∧ t = .int .i64 k ∧ Stage w2 R L ao n c g i k ∧ Off F w w2) (fun t _ => C - (intOf t).toNat)
      case atStart => exact ⟨0, Nat.zero_le _, rfl, HT.out, hb'⟩
      case round =>
        obtain ⟨k, hk, rfl, ht, hbk⟩ := hrel
        by_cases hkt : k < C
        · obtain ⟨rfl, hgB⟩ := hspot (by omega)
          have hfill := ht.2.1 i hlt (by omega)
          obtain ⟨u, hcu⟩ := hfill.cell k (by omega)
          have hfr := hfill.free k
          have HS : Hid (Stage (wr.setCell ⟨g i, k, none⟩ (.int .u8 ((i : Int) + 1))) R L ao n c g i (k + 1)) := ht.step hr hlt (by omega)
          clear ht hfill
          go_wp2
          go_roundw
          case rel => exact ⟨k + 1, by omega, by go_num, HS.out, hbk.setCell _ _ (hF i hlt (by omega))⟩
          case measure => simp [intOf]; omega
        · obtain rfl : k = C := by omega
          subst hC
          go_wp2
          go_roundw
          case rel => exact ⟨i + 1, by omega, by go_num, ht.turn, hbk⟩
          case measure => simp [intOf]; omega
    · obtain rfl : i = L := by omega
      go_wp2
      go_loopw [6] (fun t w2 => ∃ j : Nat, j ≤ i ∧ t = .int .i64 j ∧ Stage w2 R i ao n c g i 0 ∧ Off F w w2) (fun t _ => i - (intOf t).toNat)
      case atStart => exact ⟨0, Nat.zero_le _, rfl, hst, hb⟩
      case round =>
        clear hst hb hs
        obtain ⟨j, hj, rfl, hst, hb⟩ := hrel
        by_cases hjt : j < i
        · have hcell := hst.1 j hjt
          obtain ⟨hf1, hf2⟩ := hr.fits j hjt
          have hfull : 0 < c j → Fill wr (g j) (c j) ((j : Int) + 1) (c j) := fun h => by have := hst.2.1 j hjt h; rwa [if_pos hjt] at this
          have hspot := hr.spot j hjt
          generalize ao j = A at *
          generalize n j = N at *
          have hii : (j : Int) < (i : Int) := by omega
          have HT : Hid (Stage wr R i ao n c g i 0) := hst
          clear hst
          go_wp2
          go_quiet (fail)
          have HT' : Hid (Stage (wr.drewN nq) R i ao n c g i 0) := HT.out.drewN nq
          have hb' := hb.drewN nq
          go_wp2
          go_loop [8] (fun t => ∃ k : Nat, k ≤ c j ∧ t = .int .i64 k) (fun t => c j - (intOf t).toNat)
          case atStart => exact ⟨0, Nat.zero_le _, rfl⟩
          case round =>
            obtain ⟨k, hk, rfl⟩ := hrel
            by_cases hkt : k < c j
            · obtain ⟨rfl, _⟩ := hspot (by omega)
              have hcu := (hfull (by omega)).full k hkt
              clear hfull
              go_wp2
              go_round
              case rel => exact ⟨k + 1, by omega, by go_num⟩
              case measure => simp [intOf]; omega
            · obtain rfl : k = c j := by omega
              go_wp2
              go_roundw
              case rel => exact ⟨j + 1, by omega, by go_num, HT'.out, hb'⟩
              case measure => simp [intOf]; omega
        · go_wp2
          go_ret
          exact ⟨rfl, hb, fun t ht hc => by
            obtain ⟨cur, h1, h2, _⟩ := hst.2.1 t ht hc
            exact ⟨cur, h1, h2⟩⟩
theorem owned_any (R B L : Nat) (ao : Nat → Option Addr) (n c g : Nat → Nat) (w : World) (hr : Rws B L ao n c g) (hs : Stage w R L ao n c g 0 0) (hL : L ≤ 200) (hB : B ≤ w.heap.size) :
    Calls Tryz.prog 36 #[.slice (some ⟨R, 0, none⟩) L L] w fun e w' => e = .returned (.bool true) ∧ Below B w w' :=
  (owned_off (F := fun k => B ≤ k) R B L ao n c g w hr hs hL (fun i hi hc => (hr.spot i hi hc).2)).mono fun _ _ ⟨h, k, _⟩ => ⟨h, k.below (fun _ h => h) hB⟩
end Go.Proofs.YtpbljjbhfhfmgaaGreatDoor
