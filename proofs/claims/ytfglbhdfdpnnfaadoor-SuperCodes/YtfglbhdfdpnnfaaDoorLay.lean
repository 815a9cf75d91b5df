/- words.lay by its contract: the eight bytes of a number are laid over a row of the call's own. -/
import Derived.Test.YtfglbhdfdpnnfaaDoorLoad
import Derived.Test.YtfglbhdfdpnnfaaDoorRow
namespace Go.Proofs.YtfglbhdfdpnnfaaDoor
set_option maxRecDepth 100000
open Go.RowKit

theorem lay_any (B g off n cap m c : Nat) (zs : List Int) (x : Int) (w : World) (_hx0 : 0 ≤ x) (_hx : x ≤ 4611686018427387903) (h8 : 8 ≤ m) (hoff : off + 8 ≤ n) (hl : zs.length = n)
    (hown : w.ownsRow B 5 1 (.slice (some ⟨g, 0, none⟩) n cap) n (zs.map (Value.int .u8))) :
    Calls Tryd.prog 31 #[.slice (some ⟨g, off, none⟩) m c, .int .i64 x] w fun e w' =>
      e = .returned (.tuple #[]) ∧ w'.ownsRow B 5 1 (.slice (some ⟨g, 0, none⟩) n cap) n ((putk zs off x 8).map (Value.int .u8)) ∧ w.grownBy w' (some g) ∧ w'.heap.size = w.heap.size := by
  go_enter Tryd.func31, Tryd.ntmps31
  go_wp2
  go_loopw [5] (fun i wr => ∃ k : Nat, k ≤ 8 ∧ i = .int .i64 k ∧ wr.ownsRow B 5 1 (.slice (some ⟨g, 0, none⟩) n cap) n ((putk zs off x k).map (Value.int .u8)) ∧ w.grownBy wr (some g) ∧ wr.heap.size = w.heap.size) (fun i _ => 8 - (intOf i).toNat)
  case atStart => exact ⟨0, Nat.zero_le _, rfl, by rw [putk_zero]; exact hown, World.grownBy.refl _ _, rfl⟩
  case round =>
    obtain ⟨k, hk, rfl, ho, hg, hs⟩ := hrel
    by_cases hlt : k < 8
    · have hpl := putk_length zs off x k (by omega)
      have hcell : ∃ v, wr.cell? ⟨g, off + k, none⟩ = some v := ⟨_, by rw [ho.cellAt (off + k) (by omega), List.getElem?_eq_getElem (by simp; omega)]⟩
      obtain ⟨v, hcell⟩ := hcell
      have hfr := ho.frozenAt (off + k)
      have HS : Hid (wr.heap.size = w.heap.size) := hs
      have HO : Hid (wr.ownsRow B 5 1 (.slice (some ⟨g, 0, none⟩) n cap) n ((putk zs off x k).map (Value.int .u8))) := ho
      clear ho hs hpl
      go_wp2
      go_roundw
      case rel =>
        have hst := lay_step hl (by omega) HO.out
        exact ⟨k + 1, by omega, by go_num, hst.1, grown_trans hg hst.2, (by simp [World.setCell]; exact HS.out)⟩
      case measure => simp [intOf]; omega
    · obtain rfl : k = 8 := by omega
      go_wp2
      go_end0
      exact ⟨rfl, ho, hg, hs⟩
end Go.Proofs.YtfglbhdfdpnnfaaDoor
