/- words.Zero by its contract. -/
import Derived.Test.YtfnnelkipdajiaaDoorRow
import Derived.Test.YtfnnelkipdajiaaDoorRows
namespace Go.Proofs.YtfnnelkipdajiaaDoor
set_option maxRecDepth 100000
open Go.RowKit

theorem zero_any (ao : Option Addr) (n cap : Nat) (zs : List Int) (w : World) (h : Sl .u8 w ao n cap zs) (hn : n ≤ 140737488355328) :
    Calls Tryd.prog 21 #[.slice ao n cap] w fun e w' => e = .returned (.bool (allZ zs)) ∧ w = w' := by
  have hlen := h.len
  by_cases h0 : n = 0
  · subst h0
    have hz : zs = [] := List.eq_nil_of_length_eq_zero hlen
    subst hz
    go_enter Tryd.func21, Tryd.ntmps21
    go_wp2
    refine wp_loop_rounds 1 ?_
    rw [rounds_succ]
    go_wp2
    go_ret
    exact ⟨ret_bool rfl, rfl⟩
  · obtain ⟨b, off, rfl, -, hc⟩ := h.here (by omega)
    go_enter Tryd.func21, Tryd.ntmps21
    go_wp2
    go_loop [6] (fun i => ∃ k : Nat, k ≤ n ∧ i = .int .i64 k ∧ allZ (zs.take k) = true) (fun i => n - (intOf i).toNat)
    case atStart => exact ⟨0, Nat.zero_le _, rfl, rfl⟩
    case round =>
      obtain ⟨k, hk, rfl, hz⟩ := hrel
      have HZ : Hid (allZ (zs.take k) = true) := hz
      clear hz
      by_cases hlt : k < n
      · obtain ⟨z, hzv⟩ : ∃ z, zs.getD k 0 = z := ⟨_, rfl⟩
        have hcell := hc k hlt
        rw [hzv] at hcell
        have HS : Hid (allZ (zs.take (k + 1)) = (allZ (zs.take k) && (z == 0))) := by rw [← hzv]; exact allZ_succ zs k (by omega)
        have HF : Hid (z ≠ 0 → allZ zs = false) := by rw [← hzv]; exact fun hv => allZ_false zs k (by omega) (by simpa using hv)
        clear hzv hc h
        by_cases hv : z = 0
        · subst hv
          go_wp2
          go_round
          case rel => exact ⟨k + 1, by omega, by go_num, by rw [HS.out, HZ.out]; rfl⟩
          case measure => simp [intOf]; omega
        · have hv' : (z != 0) = true := by simpa using hv
          go_wp2
          go_ret
          exact ⟨ret_bool (HF.out hv).symm, rfl⟩
      · obtain rfl : k = n := by omega
        go_wp2
        go_ret
        exact ⟨ret_bool (by have := HZ.out; rw [List.take_of_length_le (by omega)] at this; exact this.symm), rfl⟩
end Go.Proofs.YtfnnelkipdajiaaDoor
