/- joistref11.SameRows at rows that are alike. -/
import Derived.Test.YtfnnelkipdajiaaDoorRdR
import Derived.Test.YtfnnelkipdajiaaDoorLent
import Derived.WalkKit
import Derived.LoopTactic
import Derived.Deep.QuietTactic
import Derived.BigQuiet
namespace Go.Proofs.YtfnnelkipdajiaaDoor
set_option maxRecDepth 100000
open Go.RowKit
set_option linter.unusedVariables false
set_option linter.unusedSimpArgs false
set_option maxRecDepth 100000

theorem rrows_rd (ao : Option Addr) (n cap : Nat) (A : Nat → Option Addr) (N C : Nat → Nat) (bo : Option Addr) (cap' : Nat) (A' : Nat → Option Addr) (N' C' : Nat → Nat) (ds : List (List Int)) (w : World) (h : Rd w ao n cap A N C ds) (g : Rd w bo n cap' A' N' C' ds) (hn : n ≤ 100000) :
    Calls Tryd.prog 20 #[.slice ao n cap, .slice bo n cap'] w fun e w' => e = .returned (.bool true) ∧ Below w.heap.size w w' := by
  have hnn : ((n : Int) != (n : Int)) = false := by simp
  go_enter Tryd.func20, Tryd.ntmps20
  go_wp2
  clear hnn
  go_loopw [5] (fun s wr => ∃ k : Nat, k ≤ n ∧ s = .int .i64 k ∧ Below w.heap.size w wr) (fun s _ => n - (intOf s).toNat)
  case atStart => exact ⟨0, Nat.zero_le _, rfl, Below.refl _ _⟩
  case round =>
    obtain ⟨k, hk, rfl, hb⟩ := hrel
    by_cases hlt : k < n
    · obtain ⟨b, off, rfl, _, _⟩ := h.here (by omega)
      obtain ⟨b', off', rfl, _, _⟩ := g.here (by omega)
      have c0 := h.cell hb hlt
      have d0 := g.cell hb hlt
      have t1 : ∀ q, (convert 26 9 (.slice (A k) (N k) (C k))).run Tryd.prog (wr.drewN q) = .ok (.string (strOfNums (da ds k))) (wr.drewN q) := fun q => ((h.row k hlt).below (below_drewN hb q)).text Tryd.underlying26 Tryd.underlying5 Tryd.underlying9
      have t2 : ∀ q, (convert 26 9 (.slice (A' k) (N' k) (C' k))).run Tryd.prog (wr.drewN q) = .ok (.string (strOfNums (da ds k))) (wr.drewN q) := fun q => ((g.row k hlt).below (below_drewN hb q)).text Tryd.underlying26 Tryd.underlying5 Tryd.underlying9
      have hki : (k : Int) < (n : Int) := by omega
      clear h g
      generalize A k = a1 at *
      generalize N k = a2 at *
      generalize C k = a3 at *
      generalize A' k = b1 at *
      generalize N' k = b2 at *
      generalize C' k = b3 at *
      generalize strOfNums (da ds k) = tx at *
      have hss : (tx.toList == tx.toList) = true := by simp
      go_wp2
      go_quiet (fail)
      go_wp2
      go_roundw
      case rel => exact ⟨k + 1, by omega, by go_num, below_drewN hb _⟩
      case measure => simp [intOf]; omega
    · obtain rfl : k = n := by omega
      have hki : ¬ ((k : Int) < (k : Int)) := by omega
      go_wp2
      go_ret
      exact ⟨rfl, hb⟩
end Go.Proofs.YtfnnelkipdajiaaDoor
