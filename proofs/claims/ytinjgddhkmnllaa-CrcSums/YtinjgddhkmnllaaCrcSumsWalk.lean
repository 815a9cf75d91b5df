/- The law 'CrcSums', walked. -/
import Derived.Test.YtinjgddhkmnllaaSmallCrc
import Derived.Test.YtinjgddhkmnllaaLent
import Derived.Test.YtinjgddhkmnllaaRefSum
namespace Go.Proofs.Ytinjgddhkmnllaa
open Go.RowKit

theorem crcSums_walk (w : World) (a0 : Option Addr) (len0 cap0 : Nat) (z0 : List Int) (s0 : Sl .u8 w a0 len0 cap0 z0) (f0 : ∀ n ∈ z0, (Lit.int .u8 n).wf = true) (c0 : cap0 * 1 ≤ 140737488351232)
    (a1 : Int) (_f1 : (Lit.int .i64 a1).wf = true) :
    Calls Try.prog 3 #[.slice a0 len0 cap0, .int .i64 a1] w fun e w' => e = .returned (.bool true) ∧ Below w.heap.size w w' := by
  have hr0 := s0.room
  have hl0 := s0.len
  have hb := bytes_wf f0
  clear f0
  have n0 : len0 ≤ 140737488355328 := by omega
  by_cases hs : 0 ≤ a1 ∧ a1 ≤ 4294967295
  · obtain ⟨s, rfl⟩ := Int.eq_ofNat_of_zero_le hs.1
    have hs' : s < 4294967296 := by omega
    go_enter Try.func3, Try.ntmps3
    go_wp2_with (first
      | (go_at_call 8; refine (small_any _).mono ?_; rintro e w1 ⟨rfl, hb1⟩; have t0 := s0.below hb1)
      | (go_at_call 9; refine (lent_any _ _ _ z0 _ t0 n0).mono ?_; rintro e w2 ⟨rfl, hlent, hb2⟩; have q0 := t0.below hb2; have q2 := hlent.sl hl0)
      | (go_at_call 10; with_reducible refine (sum_any _ _ _ z0 _ q2 hb n0).mono ?_; rintro e w' ⟨rfl, rfl⟩)
      | (go_at_call 11; with_reducible refine (add_ok s _ _ _ z0 _ hs' q2 hb n0).mono ?_; rintro e w' ⟨rfl, rfl⟩)
      | (go_at_call 12; with_reducible refine (kept_any _ _ _ _ z0 _ hlent q0 n0).mono ?_; rintro e w' ⟨rfl, rfl⟩)
      | (go_at_call 13; with_reducible refine (refadd_ok s _ _ _ z0 _ hs' q0 hb n0).mono ?_; rintro e w' ⟨rfl, rfl⟩)
      | (go_at_call 14; with_reducible refine (refsum_any _ _ _ z0 _ q0 hb n0).mono ?_; rintro e w' ⟨rfl, rfl⟩))
    go_ret
    exact ⟨rfl, next hb1 hb2⟩
  · go_enter Try.func3, Try.ntmps3
    go_wp2_with (first
      | (go_at_call 8; refine (small_any _).mono ?_; rintro e w1 ⟨rfl, hb1⟩; have t0 := s0.below hb1)
      | (go_at_call 9; refine (lent_any _ _ _ z0 _ t0 n0).mono ?_; rintro e w2 ⟨rfl, hlent, hb2⟩; have q0 := t0.below hb2; have q2 := hlent.sl hl0)
      | (go_at_call 10; with_reducible refine (sum_any _ _ _ z0 _ q2 hb n0).mono ?_; rintro e w' ⟨rfl, rfl⟩)
      | (go_at_call 11; with_reducible refine (add_bad a1 _ _ _ _ hs).mono ?_; rintro e w' ⟨rfl, rfl⟩)
      | (go_at_call 12; with_reducible refine (kept_any _ _ _ _ z0 _ hlent q0 n0).mono ?_; rintro e w' ⟨rfl, rfl⟩)
      | (go_at_call 13; with_reducible refine (refadd_bad a1 _ _ _ _ hs).mono ?_; rintro e w' ⟨rfl, rfl⟩)
      | (go_at_call 14; with_reducible refine (refsum_any _ _ _ z0 _ q0 hb n0).mono ?_; rintro e w' ⟨rfl, rfl⟩))
    go_ret
    exact ⟨rfl, next hb1 hb2⟩
end Go.Proofs.Ytinjgddhkmnllaa
