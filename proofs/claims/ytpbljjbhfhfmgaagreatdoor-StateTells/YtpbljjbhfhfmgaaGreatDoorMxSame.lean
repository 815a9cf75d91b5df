/- Same: these texts, one behind another. -/
import Derived.Test.YtpbljjbhfhfmgaaGreatDoorMxHandM
import Derived.Test.YtpbljjbhfhfmgaaGreatDoorRows
import Derived.Deep.QuietTactic
import Derived.BigQuiet
/- joistref01.Same by its contract. -/
namespace Go.Proofs.YtpbljjbhfhfmgaaGreatDoor
set_option maxRecDepth 100000
open Go.RowKit

theorem same_any (ao : Option Addr) (n cap : Nat) (xs : List Int) (bo : Option Addr) (m cap' : Nat) (ys : List Int) (w : World) (h : Sl .i64 w ao n cap xs) (g : Sl .i64 w bo m cap' ys) (hn : n ≤ 140737488355328) (hm : m ≤ 140737488355328) :
    Calls Tryz.prog 17 #[.slice ao n cap, .slice bo m cap'] w fun e w' => e = .returned (.bool (xs == ys)) ∧ Below w.heap.size w w' := by
  have hlx := h.len
  have hly := g.len
  by_cases hnm : n = m
  · subst hnm
    go_enter Tryz.func17, Tryz.ntmps17
    go_wp2
    go_loopw [5] (fun i wr => ∃ k : Nat, k ≤ n ∧ i = .int .i64 k ∧ xs.take k = ys.take k ∧ Below w.heap.size w wr) (fun i _ => n - (intOf i).toNat)
    case atStart => exact ⟨0, Nat.zero_le _, rfl, rfl, Below.refl _ _⟩
    case round =>
      obtain ⟨k, hk, rfl, he, hb⟩ := hrel
      have HE : Hid (xs.take k = ys.take k) := he
      clear he
      by_cases hlt : k < n
      · obtain ⟨b, off, rfl, hb1, hc⟩ := h.here (by omega)
        obtain ⟨b', off', rfl, hb2, hc'⟩ := g.here (by omega)
        obtain ⟨x, hx⟩ : ∃ x, xs.getD k 0 = x := ⟨_, rfl⟩
        obtain ⟨y, hy⟩ : ∃ y, ys.getD k 0 = y := ⟨_, rfl⟩
        have hcx : wr.cell? ⟨b, off + k, none⟩ = some (.int .i64 x) := by rw [hb.cell (p := ⟨b, off + k, none⟩) hb1, hc k hlt, hx]
        have hcy : wr.cell? ⟨b', off' + k, none⟩ = some (.int .i64 y) := by rw [hb.cell (p := ⟨b', off' + k, none⟩) hb2, hc' k hlt, hy]
        have HS : Hid (x = y → xs.take (k + 1) = ys.take (k + 1)) := by
          intro e
          rw [take_succ' xs k (by omega), take_succ' ys k (by omega), HE.out]
          simp only [List.getD] at hx hy
          rw [hx, hy, e]
        have HF : Hid (x ≠ y → (xs == ys) = false) := by
          intro e
          rw [← hx, ← hy] at e
          simp only [beq_eq_false_iff_ne]
          intro e2
          exact e (by rw [e2])
        clear hc hc' h g hx hy
        have hki : (k : Int) < (n : Int) := by omega
        by_cases hxy : x = y
        · have hxy' : (x != y) = false := by simpa using hxy
          go_wp2
          go_quiet (fail)
          go_wp2
          go_roundw
          case rel => exact ⟨k + 1, by omega, by go_num, HS.out hxy, below_drewN hb _⟩
          case measure => simp [intOf]; omega
        · have hxy' : (x != y) = true := by simpa using hxy
          go_wp2
          go_quiet (fail)
          go_wp2
          go_ret
          exact ⟨ret_bool (HF.out hxy).symm, below_drewN hb _⟩
      · obtain rfl : k = n := by omega
        go_wp2
        go_ret
        refine ⟨ret_bool ?_, hb⟩
        have := HE.out
        rw [List.take_of_length_le (by omega), List.take_of_length_le (by omega)] at this
        simp [this]
  · have hne : ((n : Int) != (m : Int)) = true := by simp; omega
    go_enter Tryz.func17, Tryz.ntmps17
    go_wp2
    go_ret
    refine ⟨ret_bool ?_, Below.refl _ _⟩
    symm
    simp only [beq_eq_false_iff_ne]
    intro e
    rw [e] at hlx
    omega
end Go.Proofs.YtpbljjbhfhfmgaaGreatDoor
