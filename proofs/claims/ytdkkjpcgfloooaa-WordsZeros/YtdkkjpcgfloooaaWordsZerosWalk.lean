/- The law 'WordsZeros', walked. -/
import Derived.Test.YtdkkjpcgfloooaaSmall
import Derived.Test.YtdkkjpcgfloooaaZero
namespace Go.Proofs.Ytdkkjpcgfloooaa
open Go.RowKit

theorem wordsZeros_walk (w : World) (a0 : Option Addr) (len0 cap0 : Nat) (z0 : List Int) (s0 : Sl .u8 w a0 len0 cap0 z0) (_f0 : ∀ n ∈ z0, (Lit.int .u8 n).wf = true) (c0 : cap0 * 1 ≤ 140737488351232)
    (a1 : Option Addr) (len1 cap1 : Nat) (z1 : List Int) (s1 : Sl .i64 w a1 len1 cap1 z1) (_f1 : ∀ n ∈ z1, (Lit.int .i64 n).wf = true) (c1 : cap1 * 8 ≤ 140737488351232) :
    Calls Try.prog 7 #[.slice a0 len0 cap0, .slice a1 len1 cap1] w fun e w' => e = .returned (.bool true) ∧ Below w.heap.size w w' := by
  have hr0 := s0.room
  have hr1 := s1.room
  have hl0 := s0.len
  have hl1 := s1.len
  go_enter Try.func7, Try.ntmps7
  go_wp2_with (go_at_call 9; refine (small_any _).mono ?_; rintro e w1 ⟨rfl, hbel⟩)
  have t0 := s0.below hbel
  have t1 := s1.below hbel
  clear s0 s1
  go_loop [6, 7] (fun q i => ∃ (k : Nat) (v : Bool), k ≤ len0 ∧ i = .int .i64 k ∧ q = .bool v ∧ v = allZ (z0.take k)) (fun _ i => len0 - (intOf i).toNat)
  case atStart => exact ⟨0, true, Nat.zero_le _, rfl, rfl, rfl⟩
  case round =>
    obtain ⟨k, v, hk, rfl, rfl, hv⟩ := hrel
    have HV : Hid (v = allZ (z0.take k)) := hv
    clear hv
    by_cases hlt : k < len0
    · obtain ⟨b, off, rfl, _, hc⟩ := t0.here (by omega)
      obtain ⟨z, hzv⟩ : ∃ z, z0.getD k 0 = z := ⟨_, rfl⟩
      have hcell := hc k hlt
      rw [hzv] at hcell
      have HS : Hid (allZ (z0.take (k + 1)) = (allZ (z0.take k) && (z == 0))) := by rw [← hzv]; exact allZ_succ z0 k (by omega)
      clear hzv hc t0
      cases v with
      | false =>
        go_wp2
        go_round
        case rel => exact ⟨k + 1, _, by omega, by go_num, rfl, by rw [HS.out, ← HV.out]; rfl⟩
        case measure => simp [intOf]; omega
      | true =>
        go_wp2
        go_round
        case rel => exact ⟨k + 1, _, by omega, by go_num, rfl, by rw [HS.out, ← HV.out]; simp⟩
        case measure => simp [intOf]; omega
    · obtain rfl : k = len0 := by omega
      have HZ : Hid (v = allZ z0) := by have := HV.out; rwa [List.take_of_length_le (by omega)] at this
      clear HV
      by_cases hok : okL z1 = true
      · go_wp2_with (go_at_call 20; refine (of_any _ _ _ z1 _ t1 (by omega)).mono ?_; rintro e w2 ⟨ao2, m2, cap2, rfl, hown2, hbel2⟩; rw [ofE_t hok])
        have q1 := t1.below hbel2
        have q0 := t0.below hbel2
        have q2 := hown2.sl
        have hl2 := q2.len
        rw [ofR_t hok, ofL_length] at hl2
        have HM : Hid (allZ (ofR z1) = allZ z1) := by rw [ofR_t hok]; exact allZ_ofL hok
        clear t0 t1 hown2 hok
        go_loop [10, 11] (fun q i => ∃ (k : Nat) (v : Bool), k ≤ len1 ∧ i = .int .i64 k ∧ q = .bool v ∧ v = allZ (z1.take k)) (fun _ i => len1 - (intOf i).toNat)
        case atStart => exact ⟨0, true, Nat.zero_le _, rfl, rfl, rfl⟩
        case round =>
          obtain ⟨j, u, hj, rfl, rfl, hu⟩ := hrel
          have HU : Hid (u = allZ (z1.take j)) := hu
          clear hu
          by_cases hjt : j < len1
          · obtain ⟨b, off, rfl, _, hc⟩ := q1.here (by omega)
            obtain ⟨z, hzv⟩ : ∃ z, z1.getD j 0 = z := ⟨_, rfl⟩
            have hcell := hc j hjt
            rw [hzv] at hcell
            have HS : Hid (allZ (z1.take (j + 1)) = (allZ (z1.take j) && (z == 0))) := by rw [← hzv]; exact allZ_succ z1 j (by omega)
            clear hzv hc q0 q1 q2
            cases u with
            | false =>
              go_wp2
              go_round
              case rel => exact ⟨j + 1, _, by omega, by go_num, rfl, by rw [HS.out, ← HU.out]; rfl⟩
              case measure => simp [intOf]; omega
            | true =>
              go_wp2
              go_round
              case rel => exact ⟨j + 1, _, by omega, by go_num, rfl, by rw [HS.out, ← HU.out]; simp⟩
              case measure => simp [intOf]; omega
          · obtain rfl : j = len1 := by omega
            have HY : Hid (u = allZ z1) := by have := HU.out; rwa [List.take_of_length_le (by omega)] at this
            clear HU
            have e0 : (allZ z0 == v) = true := by rw [HZ.out]; simp
            have e1 : (allZ (ofR z1) == u) = true := by rw [HY.out, HM.out]; simp
            go_wp2_with (go_at_call 13; refine (zero_any _ _ _ _ _ (by assumption) (by omega)).mono ?_; rintro e w' ⟨rfl, rfl⟩)
            go_ret
            exact ⟨rfl, hbel.trans (hbel2.mono hbel.size)⟩
      · have hok' : okL z1 = false := by simpa using hok
        go_wp2_with (first
          | (go_at_call 20; refine (of_any _ _ _ z1 _ t1 (by omega)).mono ?_; rintro e w2 ⟨ao2, m2, cap2, rfl, hown2, hbel2⟩; rw [ofE_f hok'])
          | (go_at_call 13; refine (zero_any _ _ _ z0 _ (t0.below hbel2) (by omega)).mono ?_; rintro e w' ⟨rfl, rfl⟩))
        go_ret
        exact ⟨ret_bool (by rw [HZ.out]; simp), hbel.trans (hbel2.mono hbel.size)⟩
end Go.Proofs.Ytdkkjpcgfloooaa
