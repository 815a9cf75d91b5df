/- joistref01.Get and Zero by their contracts. -/
import Derived.Test.YtfglbhdfdpnnfaaDoorLoad
import Derived.Test.YtfglbhdfdpnnfaaDoorRow
namespace Go.Proofs.YtfglbhdfdpnnfaaDoor
set_option maxRecDepth 100000
open Go.RowKit

theorem refget_any (ao : Option Addr) (n cap : Nat) (zs : List Int) (x : Int) (w : World) (h : Sl .u8 w ao n cap zs) (hb : Bytes zs) (hn : n ≤ 140737488355328) :
    Calls Tryd.prog 38 #[.slice ao n cap, .int .i64 x] w fun e w' => e = .returned (.tuple #[.int .i64 (getN zs x), .bool (getB zs x)]) ∧ w = w' := by
  have hlen := h.len
  by_cases h0 : 0 ≤ x
  · obtain ⟨k, rfl⟩ := Int.eq_ofNat_of_zero_le h0
    by_cases h1 : (k : Int) < (n : Int) / 8
    · have hroom := h.room
      obtain ⟨b, off, rfl, -, hc⟩ := h.here (by omega)
      have hH : hasB n k = true := hasB_t h0 h1
      have hk8 : 8 * k + 8 ≤ n := by omega
      have hcl : (cut zs k).length = 8 := cut_length zs k (by omega)
      have hcb := cut_bytes hb k
      have hcd : ∀ i, i < 8 → w.cell? ⟨b, off + 8 * k + i, none⟩ = some (.int .u8 ((cut zs k).getD i 0)) := fun i hi => by
        rw [Nat.add_assoc, hc (8 * k + i) (by omega)]
        simp [cut, List.getD, hi]
      have HN : Hid (getN zs k = wN (cut zs k)) := by show getN zs k = _; simp [getN, hlen, hH]
      have HB : Hid (getB zs k = wB (cut zs k)) := by show getB zs k = _; simp [getB, hlen, hH]
      generalize cut zs k = c at *
      clear hc h hH
      obtain ⟨ht1, ht2⟩ := top_byte hcb hcl
      have h7 := hcd 7 (by omega)
      obtain ⟨z, hz⟩ : ∃ z, c.getD 7 0 = z := ⟨_, rfl⟩
      rw [hz] at h7 ht1 ht2
      by_cases h64 : z < 64
      · have hmax := ht1 h64
        have HC : Hid (∀ i, i < 8 → w.cell? ⟨b, off + 8 * k + i, none⟩ = some (.int .u8 (c.getD i 0))) := hcd
        clear ht1 ht2 hcd hz
        go_enter Tryd.func38, Tryd.ntmps38
        go_wp2
        go_loop [7, 8] (fun q i => (∃ t : Nat, t < 8 ∧ i = .int .i64 t ∧ q = .int .i64 (le (c.drop (t + 1)))) ∨ (i = .int .i64 (-1) ∧ q = .int .i64 (le c))) (fun _ i => (intOf i + 1).toNat)
        case atStart => exact Or.inl ⟨7, by omega, rfl, by rw [List.drop_of_length_le (by omega)]; rfl⟩
        case round =>
          rcases hrel with ⟨t, ht, rfl, rfl⟩ | ⟨rfl, rfl⟩
          · have hcell := HC.out t ht
            obtain ⟨y, hy⟩ : ∃ y, c.getD t 0 = y := ⟨_, rfl⟩
            rw [hy] at hcell
            have HS : Hid (le (c.drop t) = le (c.drop (t + 1)) * 256 + y) := by rw [← hy]; exact le_drop_step c t (by omega)
            have hq0 := (le_bound (hcb.drop (t + 1))).1
            have hq1 := le_drop_le hcb t
            rw [HS.out] at hq1
            have hy0 : 0 ≤ y ∧ y ≤ 255 := by rw [← hy]; exact hcb.at t
            clear hy h7
            generalize hL : le (c.drop (t + 1)) = L at *
            clear hL
            have hq2 : L * 256 + y ≤ 4611686018427387903 := by omega
            have hq3 : L * 256 ≤ 4611686018427387903 := by omega
            go_wp2
            go_round
            case rel =>
              cases t with
              | zero => exact Or.inr ⟨by go_num, by rw [← HS.out]; simp⟩
              | succ t => exact Or.inl ⟨t, by omega, by go_num, by rw [HS.out]⟩
            case measure => simp [intOf]
          · go_wp2
            go_ret2
            exact ⟨ret_ib (by rw [HN.out, wN_t hmax]) (by rw [HB.out, wB_t hmax]), rfl⟩
      · have hmax := ht2 h64
        clear ht1 ht2 hcd hz
        go_enter Tryd.func38, Tryd.ntmps38
        go_wp2
        go_ret2
        exact ⟨ret_ib (by rw [HN.out, wN_f (by omega)]) (by rw [HB.out, wB_f (by omega)]), rfl⟩
    · have hH : hasB n k = false := hasB_f (by omega)
      go_enter Tryd.func38, Tryd.ntmps38
      go_wp2
      go_ret2
      exact ⟨ret_ib (by simp [getN, hlen, hH]) (by simp [getB, hlen, hH]), rfl⟩
  · have hH : hasB n x = false := hasB_f (by omega)
    go_enter Tryd.func38, Tryd.ntmps38
    go_wp2
    go_ret2
    exact ⟨ret_ib (by simp [getN, hlen, hH]) (by simp [getB, hlen, hH]), rfl⟩

end Go.Proofs.YtfglbhdfdpnnfaaDoor
