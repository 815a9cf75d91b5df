/- joistref10.Same of two rows of spans that are alike, by its contract. -/
import Derived.Test.YtlghhhhgfnnjgaaDoorRefPagB
namespace Go.Proofs.YtlghhhhgfnnjgaaDoor
set_option maxRecDepth 100000
open Go.RowKit
set_option linter.unusedVariables false
set_option linter.unusedSimpArgs false
set_option maxRecDepth 100000

theorem rsameP_eq (ao : Option Addr) (n cap : Nat) (l : List Spn) (bo : Option Addr) (c : Nat) (w : World) (h : Ps w ao n cap l) (g : Ps w bo n c l) (hn : n ≤ 9223372036854775807) :
    Calls Tryd.prog 20 #[.slice ao n cap, .slice bo n c] w fun e w' => e = .returned (.bool true) ∧ Below w.heap.size w w' := by
  have hl := h.len
  go_enter Tryd.func20, Tryd.ntmps20
  go_wp2
  go_loopw [5] (fun s5 wr => ∃ k : Nat, k ≤ n ∧ s5 = .int .i64 k ∧ Below w.heap.size w wr) (fun s5 _ => n - (intOf s5).toNat)
  case atStart => exact ⟨0, Nat.zero_le _, rfl, Below.refl _ _⟩
  case round =>
    obtain ⟨k, hk, rfl, hb⟩ := hrel
    by_cases hlt : k < n
    · obtain ⟨b, o, rfl, _, _⟩ := h.here (by omega)
      obtain ⟨b2, o2, rfl, _, _⟩ := g.here (by omega)
      obtain ⟨c0, c1⟩ := h.at hb hlt
      obtain ⟨d0, d1⟩ := g.at hb hlt
      have hki : (k : Int) < (n : Int) := by omega
      generalize pa l k = s at *
      obtain ⟨p, z⟩ := s
      simp only at c0 c1 d0 d1
      clear h g
      go_wp2
      go_quiet (fail)
      go_wp2
      go_roundw
      case rel => exact ⟨k + 1, by omega, by go_num, below_drewN hb _⟩
      case measure => simp [intOf]; omega
    · obtain rfl : k = n := by omega
      clear h g
      go_wp2
      go_ret
      exact ⟨rfl, hb⟩
end Go.Proofs.YtlghhhhgfnnjgaaDoor
