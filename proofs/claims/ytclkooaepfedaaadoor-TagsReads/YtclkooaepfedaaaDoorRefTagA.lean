/- joistref11.Same, SameRows at rows that are alike; what stands in a row that was read back. -/
import Derived.Test.YtclkooaepfedaaaDoorTagB
import Derived.Test.YtclkooaepfedaaaDoorTagM
import Derived.Test.YtclkooaepfedaaaDoorZero
import Derived.Deep.QuietTactic
import Derived.BigQuiet
namespace Go.Proofs.YtclkooaepfedaaaDoor
set_option maxRecDepth 100000
open Go.RowKit
set_option linter.unusedVariables false
set_option linter.unusedSimpArgs false
set_option maxRecDepth 100000

theorem rsame_bs (ao : Option Addr) (n cap : Nat) (bo : Option Addr) (cap' : Nat) (l : List Blk) (w : World) (h : Bs w ao n cap l) (g : Bs w bo n cap' l) (hn : n ≤ 100000) :
    Calls Tryd.prog 20 #[.slice ao n cap, .slice bo n cap'] w fun e w' => e = .returned (.bool true) ∧ Below w.heap.size w w' := by
  have hnn : ((n : Int) != (n : Int)) = false := by simp
  go_enter Tryd.func20, Tryd.ntmps20
  go_wp2
  clear hnn
  go_loopw [5] (fun s wr => ∃ k : Nat, k ≤ n ∧ s = .int .i64 k ∧ Below w.heap.size w wr) (fun s _ => n - (intOf s).toNat)
  case atStart => exact ⟨0, Nat.zero_le _, rfl, Below.refl _ _⟩
  case round =>
    obtain ⟨k, hk, rfl, hb⟩ := hrel
    by_cases hlt : k < n
    · obtain ⟨b, off, rfl, _, _⟩ := h.here (by omega)
      obtain ⟨b', off', rfl, _, _⟩ := g.here (by omega)
      obtain ⟨c0, c1, c2⟩ := h.at hb hlt
      obtain ⟨d0, d1, d2⟩ := g.at hb hlt
      have hki : (k : Int) < (n : Int) := by omega
      clear h g
      generalize ba l k = s at *
      obtain ⟨p, z, x⟩ := s
      simp only at *
      go_wp2
      go_quiet (fail)
      go_wp2
      go_roundw
      case rel => exact ⟨k + 1, by omega, by go_num, below_drewN hb _⟩
      case measure => simp [intOf]; omega
    · obtain rfl : k = n := by omega
      have hki : ¬ ((k : Int) < (k : Int)) := by omega
      go_wp2
      go_ret
      exact ⟨rfl, hb⟩
theorem rrows_rd (ao : Option Addr) (n cap : Nat) (A : Nat → Option Addr) (N C : Nat → Nat) (bo : Option Addr) (cap' : Nat) (A' : Nat → Option Addr) (N' C' : Nat → Nat) (ds : List (List Int)) (w : World) (h : Rd w ao n cap A N C ds) (g : Rd w bo n cap' A' N' C' ds) (hn : n ≤ 100000) :
    Calls Tryd.prog 21 #[.slice ao n cap, .slice bo n cap'] w fun e w' => e = .returned (.bool true) ∧ Below w.heap.size w w' := by
  have hnn : ((n : Int) != (n : Int)) = false := by simp
  go_enter Tryd.func21, Tryd.ntmps21
  go_wp2
  clear hnn
  go_loopw [5] (fun s wr => ∃ k : Nat, k ≤ n ∧ s = .int .i64 k ∧ Below w.heap.size w wr) (fun s _ => n - (intOf s).toNat)
  case atStart => exact ⟨0, Nat.zero_le _, rfl, Below.refl _ _⟩
  case round =>
    obtain ⟨k, hk, rfl, hb⟩ := hrel
    by_cases hlt : k < n
    · obtain ⟨b, off, rfl, _, _⟩ := h.here (by omega)
      obtain ⟨b', off', rfl, _, _⟩ := g.here (by omega)
      have c0 := h.cell hb hlt
      have d0 := g.cell hb hlt
      have t1 : ∀ q, (convert 26 9 (.slice (A k) (N k) (C k))).run Tryd.prog (wr.drewN q) = .ok (.string (strOfNums (da ds k))) (wr.drewN q) := fun q => ((h.row k hlt).below (below_drewN hb q)).text Tryd.underlying26 Tryd.underlying5 Tryd.underlying9
      have t2 : ∀ q, (convert 26 9 (.slice (A' k) (N' k) (C' k))).run Tryd.prog (wr.drewN q) = .ok (.string (strOfNums (da ds k))) (wr.drewN q) := fun q => ((g.row k hlt).below (below_drewN hb q)).text Tryd.underlying26 Tryd.underlying5 Tryd.underlying9
      have hki : (k : Int) < (n : Int) := by omega
      clear h g
      generalize A k = a1 at *
      generalize N k = a2 at *
      generalize C k = a3 at *
      generalize A' k = b1 at *
      generalize N' k = b2 at *
      generalize C' k = b3 at *
      generalize strOfNums (da ds k) = tx at *
      have hss : (tx.toList == tx.toList) = true := by simp
      go_wp2
      go_quiet (fail)
      go_wp2
      go_roundw
      case rel => exact ⟨k + 1, by omega, by go_num, below_drewN hb _⟩
      case measure => simp [intOf]; omega
    · obtain rfl : k = n := by omega
      have hki : ¬ ((k : Int) < (k : Int)) := by omega
      go_wp2
      go_ret
      exact ⟨rfl, hb⟩
/-- The first bytes of a slice that can be read. -/
theorem Sl.pre {k : IntKind} {w : World} {ao : Option Addr} {n cap : Nat} {zs : List Int} (h : Sl k w ao n cap zs) {j : Nat} (hj : j ≤ n) : Sl k w ao j cap (zs.take j) := by
  have hl := h.len
  have hr := h.room
  refine ⟨by simp; omega, by omega, h.void, fun hp => ?_⟩
  obtain ⟨b, off, e, hlt, hc⟩ := h.here (by omega)
  refine ⟨b, off, e, hlt, fun i hi => ?_⟩
  rw [hc i (by omega)]
  simp [List.getD, hi]
/-- The bytes behind them. -/
theorem Sl.post {k : IntKind} {w : World} {g o n cap : Nat} {zs : List Int} (h : Sl k w (some ⟨g, o, none⟩) n cap zs) {j : Nat} (hj : j ≤ n) : Sl k w (some ⟨g, o + j, none⟩) (n - j) (cap - j) (zs.drop j) := by
  have hl := h.len
  have hr := h.room
  refine ⟨by simp; omega, by omega, (by intro e; cases e), fun hp => ?_⟩
  obtain ⟨b, off, e, hlt, hc⟩ := h.here (by omega)
  cases e
  refine ⟨g, o + j, rfl, hlt, fun i hi => ?_⟩
  rw [Nat.add_assoc, hc (j + i) (by omega), getD_drop]
theorem Sl.nul {k : IntKind} {w : World} (ao : Option Addr) (ha : ao ≠ none) : Sl k w ao 0 0 [] := ⟨rfl, Nat.le_refl _, fun _ => rfl, fun h => absurd h (by omega)⟩
theorem full_two {f t : Int} {l : List Blk} {ds : List (List Int)} {zs : List Int} (h : HeapB f t l ds zs) {i : Nat} (hi : i < l.length) :
    (inL f zs (ba l i)).length = 8 * ((ba l i).sz - 2).toNat ∧ (da ds i).length ≤ 8 * ((ba l i).sz - 2).toNat ∧ (inL f zs (ba l i)).take (da ds i).length = da ds i ∧ allZ ((inL f zs (ba l i)).drop (da ds i).length) = true := by
  have hf := blk_fit h.right hi
  have hx := (h.hold.ixs i hi).2.2
  have hl := inL_length h.len hf.1 hf.2.2.1 hf.2.2.2.1
  have hd := (h.used i hi).dat
  have hlt : (da ds i).length ≤ 8 * ((ba l i).sz - 2).toNat := by omega
  refine ⟨hl, hlt, ext_getD (by simp; omega) (fun j hj => ?_), ?_⟩
  · have hj' : j < (da ds i).length := by simp at hj; omega
    have e := hd j (by omega)
    rw [← inL_at (by omega)] at e
    rw [← e]
    simp [List.getD, hj']
  · simp only [allZ, List.all_eq_true]
    intro z hz
    obtain ⟨j, hj, rfl⟩ := List.getElem_of_mem hz
    simp only [List.length_drop] at hj
    have e := hd ((da ds i).length + j) (by omega)
    rw [← inL_at (by omega), getD_out (b := da ds i) (by omega)] at e
    simp only [List.getElem_drop]
    simp only [List.getD, List.getElem?_eq_getElem (show (da ds i).length + j < (inL f zs (ba l i)).length by omega), Option.getD_some] at e
    simp [e]
end Go.Proofs.YtclkooaepfedaaaDoor
