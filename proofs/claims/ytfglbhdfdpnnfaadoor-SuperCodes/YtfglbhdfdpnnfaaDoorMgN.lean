/- Load · Lay · Get: these texts, one behind another. -/
import Derived.Test.YtfglbhdfdpnnfaaDoorRows
import Derived.Test.YtfglbhdfdpnnfaaDoorMath
import Derived.WalkKit
import Derived.WalkLawsBesides
import Derived.Below
import Derived.Test.YtfglbhdfdpnnfaaDoorRow
/- words.fits, holds and load by their contracts. -/
namespace Go.Proofs.YtfglbhdfdpnnfaaDoor
set_option maxRecDepth 100000
open Go.RowKit

theorem fits_any (n : Int) (w : World) :
    Calls Tryd.prog 30 #[.int .i64 n] w fun e w' => e = .returned (.bool (fitB n)) ∧ w = w' := by
  by_cases h : 0 ≤ n
  · by_cases h2 : n ≤ 4611686018427387903
    · go_enter Tryd.func30, Tryd.ntmps30
      go_wp2
      go_ret
      exact ⟨ret_bool (fitB_t h h2).symm, rfl⟩
    · go_enter Tryd.func30, Tryd.ntmps30
      go_wp2
      go_ret
      exact ⟨ret_bool (fitB_f (by omega)).symm, rfl⟩
  · go_enter Tryd.func30, Tryd.ntmps30
    go_wp2
    go_ret
    exact ⟨ret_bool (fitB_f (by omega)).symm, rfl⟩

theorem holds_any (ao : Option Addr) (len cap : Nat) (n : Int) (w : World) (hl : len ≤ 9223372036854775807) :
    Calls Tryd.prog 51 #[.slice ao len cap, .int .i64 n] w fun e w' => e = .returned (.bool (hasB len n)) ∧ w = w' := by
  by_cases h : 0 ≤ n
  · by_cases h2 : n < (len : Int) / 8
    · go_enter Tryd.func51, Tryd.ntmps51
      go_wp2
      go_ret
      exact ⟨ret_bool (hasB_t h h2).symm, rfl⟩
    · go_enter Tryd.func51, Tryd.ntmps51
      go_wp2
      go_ret
      exact ⟨ret_bool (hasB_f (by omega)).symm, rfl⟩
  · go_enter Tryd.func51, Tryd.ntmps51
    go_wp2
    go_ret
    exact ⟨ret_bool (hasB_f (by omega)).symm, rfl⟩

theorem load_any (b off len cap : Nat) (zs : List Int) (w : World) (h8 : 8 ≤ len) (hz : zs.length = len) (hb : Bytes zs)
    (hc : ∀ i, i < len → w.cell? ⟨b, off + i, none⟩ = some (.int .u8 (zs.getD i 0))) :
    Calls Tryd.prog 45 #[.slice (some ⟨b, off, none⟩) len cap] w fun e w' =>
      e = .returned (.tuple #[.int .i64 (wN (zs.take 8)), .bool (wB (zs.take 8))]) ∧ w = w' := by
  go_enter Tryd.func45, Tryd.ntmps45
  go_wp2
  go_loop [4, 6] (fun n i => ∃ k : Nat, k ≤ 8 ∧ i = .int .i64 k ∧ n = .int .u64 (le (zs.take k))) (fun _ i => 8 - (intOf i).toNat)
  case atStart => exact ⟨0, Nat.zero_le _, rfl, rfl⟩
  case round =>
    obtain ⟨k, hk, rfl, rfl⟩ := hrel
    by_cases hlt : k < 8
    · have hcell := hc k (by omega)
      have hbk := hb.at k
      have HS : Hid (le (zs.take (k + 1)) = le (zs.take k) + 256 ^ k * zs[k]?.getD 0) := le_take_succ zs k (by omega)
      have HB : Hid (0 ≤ le (zs.take k) ∧ le (zs.take k) < 256 ^ k) := le_take_bound hb k (by omega)
      go_wp2
      go_round
      case rel => exact ⟨k + 1, by omega, by go_num, by rw [HS.out, or_place k hlt _ _ HB.out.1 HB.out.2 hbk.1 hbk.2]⟩
      case measure => simp [intOf]; omega
    · obtain rfl : k = 8 := by omega
      have hbd := (le_take_bound hb 8 (by omega)).1
      by_cases hmax : le (zs.take 8) ≤ 4611686018427387903
      · go_wp2
        go_ret2
        exact ⟨ret_ib (wN_t hmax).symm (wB_t hmax).symm, rfl⟩
      · go_wp2
        go_ret2
        exact ⟨ret_ib (wN_f (by omega)).symm (wB_f (by omega)).symm, rfl⟩

end Go.Proofs.YtfglbhdfdpnnfaaDoor
/- words.lay by its contract: the eight bytes of a number are laid over a row of the call's own. -/
namespace Go.Proofs.YtfglbhdfdpnnfaaDoor
set_option maxRecDepth 100000
open Go.RowKit

theorem lay_any (B g off n cap m c : Nat) (zs : List Int) (x : Int) (w : World) (_hx0 : 0 ≤ x) (_hx : x ≤ 4611686018427387903) (h8 : 8 ≤ m) (hoff : off + 8 ≤ n) (hl : zs.length = n)
    (hown : w.ownsRow B 5 1 (.slice (some ⟨g, 0, none⟩) n cap) n (zs.map (Value.int .u8))) :
    Calls Tryd.prog 31 #[.slice (some ⟨g, off, none⟩) m c, .int .i64 x] w fun e w' =>
      e = .returned (.tuple #[]) ∧ w'.ownsRow B 5 1 (.slice (some ⟨g, 0, none⟩) n cap) n ((putk zs off x 8).map (Value.int .u8)) ∧ w.grownBy w' (some g) ∧ w'.heap.size = w.heap.size := by
  go_enter Tryd.func31, Tryd.ntmps31
  go_wp2
  go_loopw [5] (fun i wr => ∃ k : Nat, k ≤ 8 ∧ i = .int .i64 k ∧ wr.ownsRow B 5 1 (.slice (some ⟨g, 0, none⟩) n cap) n ((putk zs off x k).map (Value.int .u8)) ∧ w.grownBy wr (some g) ∧ wr.heap.size = w.heap.size) (fun i _ => 8 - (intOf i).toNat)
  case atStart => exact ⟨0, Nat.zero_le _, rfl, by rw [putk_zero]; exact hown, World.grownBy.refl _ _, rfl⟩
  case round =>
    obtain ⟨k, hk, rfl, ho, hg, hs⟩ := hrel
    by_cases hlt : k < 8
    · have hpl := putk_length zs off x k (by omega)
      have hcell : ∃ v, wr.cell? ⟨g, off + k, none⟩ = some v := ⟨_, by rw [ho.cellAt (off + k) (by omega), List.getElem?_eq_getElem (by simp; omega)]⟩
      obtain ⟨v, hcell⟩ := hcell
      have hfr := ho.frozenAt (off + k)
      have HS : Hid (wr.heap.size = w.heap.size) := hs
      have HO : Hid (wr.ownsRow B 5 1 (.slice (some ⟨g, 0, none⟩) n cap) n ((putk zs off x k).map (Value.int .u8))) := ho
      clear ho hs hpl
      go_wp2
      go_roundw
      case rel =>
        have hst := lay_step hl (by omega) HO.out
        exact ⟨k + 1, by omega, by go_num, hst.1, grown_trans hg hst.2, (by simp [World.setCell]; exact HS.out)⟩
      case measure => simp [intOf]; omega
    · obtain rfl : k = 8 := by omega
      go_wp2
      go_end0
      exact ⟨rfl, ho, hg, hs⟩
end Go.Proofs.YtfglbhdfdpnnfaaDoor
/- words.Get by its contract. -/
namespace Go.Proofs.YtfglbhdfdpnnfaaDoor
set_option maxRecDepth 100000
open Go.RowKit

theorem get_any (ao : Option Addr) (n cap : Nat) (zs : List Int) (x : Int) (w : World) (h : Sl .u8 w ao n cap zs) (hb : Bytes zs) (hn : n ≤ 140737488355328) :
    Calls Tryd.prog 43 #[.slice ao n cap, .int .i64 x] w fun e w' => e = .returned (.tuple #[.int .i64 (getN zs x), .bool (getB zs x)]) ∧ w = w' := by
  have hlen := h.len
  by_cases hx : 0 ≤ x ∧ x < (n : Int) / 8
  · obtain ⟨h0, h1⟩ := hx
    obtain ⟨k, rfl⟩ := Int.eq_ofNat_of_zero_le h0
    obtain ⟨b, off, rfl, -, hc⟩ := h.here (by omega)
    have hroom := h.room
    have hH : hasB n k = true := hasB_t h0 h1
    have hcd : ∀ i, i < n - k * 8 → w.cell? ⟨b, off + k * 8 + i, none⟩ = some (.int .u8 ((zs.drop (8 * k)).getD i 0)) := fun i hi => by
      rw [Nat.add_assoc, hc (k * 8 + i) (by omega), getD_drop, Nat.mul_comm]
    go_enter Tryd.func43, Tryd.ntmps43
    go_wp2_with (first
      | (go_at_call 51; refine (holds_any _ _ _ _ _ (by omega)).mono ?_; rintro e w' ⟨rfl, rfl⟩)
      | (go_at_call 45; refine (load_any _ _ _ _ (zs.drop (8 * k)) _ (by omega) (by simp; omega) (hb.drop _) hcd).mono ?_; rintro e w' ⟨rfl, rfl⟩))
    go_ret2
    exact ⟨ret_ib (by simp [getN, hlen, hH, cut]) (by simp [getB, hlen, hH, cut]), rfl⟩
  · have hH : hasB n x = false := hasB_f hx
    go_enter Tryd.func43, Tryd.ntmps43
    go_wp2_with (go_at_call 51; refine (holds_any _ _ _ _ _ (by omega)).mono ?_; rintro e w' ⟨rfl, rfl⟩)
    go_ret2
    exact ⟨ret_ib (by simp [getN, hlen, hH]) (by simp [getB, hlen, hH]), rfl⟩
end Go.Proofs.YtfglbhdfdpnnfaaDoor
