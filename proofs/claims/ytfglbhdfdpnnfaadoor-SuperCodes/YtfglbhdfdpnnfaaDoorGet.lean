/- words.Get by its contract. -/
import Derived.Test.YtfglbhdfdpnnfaaDoorLoad
import Derived.Test.YtfglbhdfdpnnfaaDoorRow
namespace Go.Proofs.YtfglbhdfdpnnfaaDoor
set_option maxRecDepth 100000
open Go.RowKit

theorem get_any (ao : Option Addr) (n cap : Nat) (zs : List Int) (x : Int) (w : World) (h : Sl .u8 w ao n cap zs) (hb : Bytes zs) (hn : n ≤ 140737488355328) :
    Calls Tryd.prog 43 #[.slice ao n cap, .int .i64 x] w fun e w' => e = .returned (.tuple #[.int .i64 (getN zs x), .bool (getB zs x)]) ∧ w = w' := by
  have hlen := h.len
  by_cases hx : 0 ≤ x ∧ x < (n : Int) / 8
  · obtain ⟨h0, h1⟩ := hx
    obtain ⟨k, rfl⟩ := Int.eq_ofNat_of_zero_le h0
    obtain ⟨b, off, rfl, -, hc⟩ := h.here (by omega)
    have hroom := h.room
    have hH : hasB n k = true := hasB_t h0 h1
    have hcd : ∀ i, i < n - k * 8 → w.cell? ⟨b, off + k * 8 + i, none⟩ = some (.int .u8 ((zs.drop (8 * k)).getD i 0)) := fun i hi => by
      rw [Nat.add_assoc, hc (k * 8 + i) (by omega), getD_drop, Nat.mul_comm]
    go_enter Tryd.func43, Tryd.ntmps43
    go_wp2_with (first
      | (go_at_call 51; refine (holds_any _ _ _ _ _ (by omega)).mono ?_; rintro e w' ⟨rfl, rfl⟩)
      | (go_at_call 45; refine (load_any _ _ _ _ (zs.drop (8 * k)) _ (by omega) (by simp; omega) (hb.drop _) hcd).mono ?_; rintro e w' ⟨rfl, rfl⟩))
    go_ret2
    exact ⟨ret_ib (by simp [getN, hlen, hH, cut]) (by simp [getB, hlen, hH, cut]), rfl⟩
  · have hH : hasB n x = false := hasB_f hx
    go_enter Tryd.func43, Tryd.ntmps43
    go_wp2_with (go_at_call 51; refine (holds_any _ _ _ _ _ (by omega)).mono ?_; rintro e w' ⟨rfl, rfl⟩)
    go_ret2
    exact ⟨ret_ib (by simp [getN, hlen, hH]) (by simp [getB, hlen, hH]), rfl⟩
end Go.Proofs.YtfglbhdfdpnnfaaDoor
