/- joistref01.Get and Zero by their contracts. -/
import Derived.Test.YtgiippbjieecmaaGreatMgN
import Derived.Test.YtgiippbjieecmaaGreatRow
namespace Go.Proofs.YtgiippbjieecmaaGreat
set_option maxRecDepth 100000
open Go.RowKit

theorem refget_any (ao : Option Addr) (n cap : Nat) (zs : List Int) (x : Int) (w : World) (h : Sl .u8 w ao n cap zs) (hb : Bytes zs) (hn : n ≤ 140737488355328) :
    Calls Tryz.prog 61 #[.slice ao n cap, .int .i64 x] w fun e w' => e = .returned (.tuple #[.int .i64 (getN zs x), .bool (getB zs x)]) ∧ w = w' := by
  have hlen := h.len
  by_cases h0 : 0 ≤ x
  · obtain ⟨k, rfl⟩ := Int.eq_ofNat_of_zero_le h0
    by_cases h1 : (k : Int) < (n : Int) / 8
    · have hroom := h.room
      obtain ⟨b, off, rfl, -, hc⟩ := h.here (by omega)
      have hH : hasB n k = true := hasB_t h0 h1
      have hk8 : 8 * k + 8 ≤ n := by omega
      have hcl : (cut zs k).length = 8 := cut_length zs k (by omega)
      have hcb := cut_bytes hb k
      have hcd : ∀ i, i < 8 → w.cell? ⟨b, off + 8 * k + i, none⟩ = some (.int .u8 ((cut zs k).getD i 0)) := fun i hi => by
        rw [Nat.add_assoc, hc (8 * k + i) (by omega)]
        simp [cut, List.getD, hi]
      have HN : Hid (getN zs k = wN (cut zs k)) := by show getN zs k = _; simp [getN, hlen, hH]
      have HB : Hid (getB zs k = wB (cut zs k)) := by show getB zs k = _; simp [getB, hlen, hH]
      generalize cut zs k = c at *
      clear hc h hH
      obtain ⟨ht1, ht2⟩ := top_byte hcb hcl
      have h7 := hcd 7 (by omega)
      obtain ⟨z, hz⟩ : ∃ z, c.getD 7 0 = z := ⟨_, rfl⟩
      rw [hz] at h7 ht1 ht2
      by_cases h64 : z < 64
      · have hmax := ht1 h64
        have HC : Hid (∀ i, i < 8 → w.cell? ⟨b, off + 8 * k + i, none⟩ = some (.int .u8 (c.getD i 0))) := hcd
        clear ht1 ht2 hcd hz
        go_enter Tryz.func61, Tryz.ntmps61
        go_wp2
        go_loop [7, 8] (fun q i => (∃ t : Nat, t < 8 ∧ i = .int .i64 t ∧ q = .int .i64 (le (c.drop (t + 1)))) ∨ (i = .int .i64 (-1) ∧ q = .int .i64 (le c))) (fun _ i => (intOf i + 1).toNat)
        case atStart => exact Or.inl ⟨7, by omega, rfl, by rw [List.drop_of_length_le (by omega)]; rfl⟩
        case round =>
          rcases hrel with ⟨t, ht, rfl, rfl⟩ | ⟨rfl, rfl⟩
          · have hcell := HC.out t ht
            obtain ⟨y, hy⟩ : ∃ y, c.getD t 0 = y := ⟨_, rfl⟩
            rw [hy] at hcell
            have HS : Hid (le (c.drop t) = le (c.drop (t + 1)) * 256 + y) := by rw [← hy]; exact le_drop_step c t (by omega)
            have hq0 := (le_bound (hcb.drop (t + 1))).1
            have hq1 := le_drop_le hcb t
            rw [HS.out] at hq1
            have hy0 : 0 ≤ y ∧ y ≤ 255 := by rw [← hy]; exact hcb.at t
            clear hy h7
            generalize hL : le (c.drop (t + 1)) = L at *
            clear hL
            have hq2 : L * 256 + y ≤ 4611686018427387903 := by omega
            have hq3 : L * 256 ≤ 4611686018427387903 := by omega
            go_wp2
            go_round
            case rel =>
              cases t with
              | zero => exact Or.inr ⟨by go_num, by rw [← HS.out]; simp⟩
              | succ t => exact Or.inl ⟨t, by omega, by go_num, by rw [HS.out]⟩
            case measure => simp [intOf]
          · go_wp2
            go_ret2
            exact ⟨ret_ib (by rw [HN.out, wN_t hmax]) (by rw [HB.out, wB_t hmax]), rfl⟩
      · have hmax := ht2 h64
        clear ht1 ht2 hcd hz
        go_enter Tryz.func61, Tryz.ntmps61
        go_wp2
        go_ret2
        exact ⟨ret_ib (by rw [HN.out, wN_f (by omega)]) (by rw [HB.out, wB_f (by omega)]), rfl⟩
    · have hH : hasB n k = false := hasB_f (by omega)
      go_enter Tryz.func61, Tryz.ntmps61
      go_wp2
      go_ret2
      exact ⟨ret_ib (by simp [getN, hlen, hH]) (by simp [getB, hlen, hH]), rfl⟩
  · have hH : hasB n x = false := hasB_f (by omega)
    go_enter Tryz.func61, Tryz.ntmps61
    go_wp2
    go_ret2
    exact ⟨ret_ib (by simp [getN, hlen, hH]) (by simp [getB, hlen, hH]), rfl⟩

theorem refzero_any (ao : Option Addr) (n cap : Nat) (zs : List Int) (w : World) (h : Sl .u8 w ao n cap zs) (hn : n ≤ 140737488355328) :
    Calls Tryz.prog 60 #[.slice ao n cap] w fun e w' => e = .returned (.bool (allZ zs)) ∧ w = w' := by
  have hlen := h.len
  go_enter Tryz.func60, Tryz.ntmps60
  go_wp2
  go_loop [3] (fun i => ∃ k : Nat, k ≤ n ∧ i = .int .i64 k ∧ allZ (zs.take k) = true) (fun i => n - (intOf i).toNat)
  case atStart => exact ⟨0, Nat.zero_le _, rfl, rfl⟩
  case round =>
    obtain ⟨k, hk, rfl, hz⟩ := hrel
    have HZ : Hid (allZ (zs.take k) = true) := hz
    clear hz
    by_cases hlt : k < n
    · obtain ⟨b, off, rfl, -, hc⟩ := h.here (by omega)
      obtain ⟨z, hzv⟩ : ∃ z, zs.getD k 0 = z := ⟨_, rfl⟩
      have hcell := hc k hlt
      rw [hzv] at hcell
      have HS : Hid (allZ (zs.take (k + 1)) = (allZ (zs.take k) && (z == 0))) := by rw [← hzv]; exact allZ_succ zs k (by omega)
      have HF : Hid (z ≠ 0 → allZ zs = false) := by rw [← hzv]; exact fun hv => allZ_false zs k (by omega) (by simpa using hv)
      clear hzv hc h
      by_cases hv : z = 0
      · subst hv
        go_wp2
        go_round
        case rel => exact ⟨k + 1, by omega, by go_num, by rw [HS.out, HZ.out]; rfl⟩
        case measure => simp [intOf]; omega
      · have hv' : (z != 0) = true := by simpa using hv
        go_wp2
        go_ret
        exact ⟨ret_bool (HF.out hv).symm, rfl⟩
    · obtain rfl : k = n := by omega
      go_wp2
      go_ret
      exact ⟨ret_bool (by have := HZ.out; rw [List.take_of_length_le (by omega)] at this; exact this.symm), rfl⟩
end Go.Proofs.YtgiippbjieecmaaGreat
