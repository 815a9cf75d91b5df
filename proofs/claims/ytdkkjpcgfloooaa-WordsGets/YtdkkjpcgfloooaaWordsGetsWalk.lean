/- The law 'WordsGets', walked. -/
import Derived.Test.YtdkkjpcgfloooaaSmall
import Derived.Test.YtdkkjpcgfloooaaAll
import Derived.Test.YtdkkjpcgfloooaaSame
import Derived.Test.YtdkkjpcgfloooaaZero
import Derived.Test.YtdkkjpcgfloooaaLent
import Derived.Test.YtdkkjpcgfloooaaRefAll
namespace Go.Proofs.Ytdkkjpcgfloooaa
open Go.RowKit

theorem wordsGets_walk (w : World) (a0 : Option Addr) (len0 cap0 : Nat) (z0 : List Int) (s0 : Sl .u8 w a0 len0 cap0 z0) (f0 : ∀ n ∈ z0, (Lit.int .u8 n).wf = true) (c0 : cap0 * 1 ≤ 140737488351232)
    (a1 : Int) (_f1 : (Lit.int .i64 a1).wf = true) :
    Calls Try.prog 3 #[.slice a0 len0 cap0, .int .i64 a1] w fun e w' => e = .returned (.bool true) ∧ Below w.heap.size w w' := by
  have hr0 := s0.room
  have hl0 := s0.len
  have b0 := bytes_wf f0
  have n0 : len0 ≤ 140737488355328 := by omega
  have hal : (allR z0).length ≤ 140737488355328 := by
    unfold allR
    split
    · rw [wdL_length]; omega
    · simp
  clear f0
  go_enter Try.func3, Try.ntmps3
  go_wp2_with (first
    | (go_at_call 9; refine (small_any _).mono ?_; rintro e w1 ⟨rfl, hbel⟩; have t0 := s0.below hbel)
    | (go_at_call 10; refine (lent_any _ _ _ z0 _ t0 n0).mono ?_; rintro e w2 ⟨rfl, hlent, hbel2⟩; have q0 := t0.below hbel2; have q2 := hlent.sl hl0)
    | (go_at_call 11; with_reducible refine (get_any _ _ _ z0 _ _ q2 b0 n0).mono ?_; rintro e w' ⟨rfl, rfl⟩)
    | (go_at_call 12; with_reducible refine (all_any _ _ _ z0 _ q2 b0 n0).mono ?_; rintro e w3 ⟨ao3, m3, cap3, rfl, hown3, hbel3⟩; have r0 := q0.below hbel3; have r2 := q2.below hbel3; have r3 := hown3.sl; have hlent3 := hlent.below hbel3; have hl3 := r3.len)
    | (go_at_call 13; with_reducible refine (zero_any _ _ _ z0 _ r2 n0).mono ?_; rintro e w' ⟨rfl, rfl⟩)
    | (go_at_call 14; with_reducible refine (kept_any _ _ _ _ z0 _ hlent3 r0 n0).mono ?_; rintro e w' ⟨rfl, rfl⟩)
    | (go_at_call 15; with_reducible refine (refget_any _ _ _ z0 _ _ r0 b0 n0).mono ?_; rintro e w' ⟨rfl, rfl⟩)
    | (go_at_call 16; with_reducible refine (refall_any _ _ _ z0 _ r0 b0 n0).mono ?_; rintro e w4 ⟨ao4, m4, cap4, rfl, hown4, hbel4⟩; have u0 := r0.below hbel4; have u3 := r3.below hbel4; have u4 := hown4.sl; have hl4 := u4.len)
    | (go_at_call 17; with_reducible refine (same_any _ _ _ (allR z0) _ _ _ (allR z0) _ u3 u4 ?_ ?_).mono ?_; rotate_right; rintro e w5 ⟨rfl, hbel5⟩; have v0 := u0.below hbel5)
    | (go_at_call 18; with_reducible refine (refzero_any _ _ _ z0 _ v0 n0).mono ?_; rintro e w' ⟨rfl, rfl⟩))
  · go_ret
    exact ⟨rfl, next (next (next (next hbel hbel2) hbel3) hbel4) hbel5⟩
  · omega
  · omega
end Go.Proofs.Ytdkkjpcgfloooaa
