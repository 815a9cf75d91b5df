/- The law 'WordsBack', walked. -/
import Derived.Test.YtdkkjpcgfloooaaSmall
namespace Go.Proofs.Ytdkkjpcgfloooaa
open Go.RowKit

theorem wordsBack_walk (w : World) (a0 : Option Addr) (len0 cap0 : Nat) (z0 : List Int) (s0 : Sl .u8 w a0 len0 cap0 z0) (f0 : ∀ n ∈ z0, (Lit.int .u8 n).wf = true) (c0 : cap0 * 1 ≤ 140737488351232)
    (a1 : Int) (_f1 : (Lit.int .i64 a1).wf = true) (a2 : Int) (_f2 : (Lit.int .i64 a2).wf = true) (a3 : Int) (_f3 : (Lit.int .i64 a3).wf = true) :
    Calls Try.prog 5 #[.slice a0 len0 cap0, .int .i64 a1, .int .i64 a2, .int .i64 a3] w fun e w' => e = .returned (.bool true) ∧ Below w.heap.size w w' := by
  have hr0 := s0.room
  have hl0 := s0.len
  have b0 := bytes_wf f0
  clear f0
  by_cases hp : 0 ≤ a1 ∧ a1 < (len0 : Int) / 8
  · by_cases hx : 0 ≤ a2 ∧ a2 ≤ 4611686018427387903
    · obtain ⟨h0, h1⟩ := hp
      obtain ⟨k, rfl⟩ := Int.eq_ofNat_of_zero_le h0
      have hk : 8 * k + 8 ≤ len0 := by omega
      have hf : fitB a2 = true := fitB_t hx.1 hx.2
      obtain ⟨g1, g2⟩ := get_put z0 k a2 (by omega) hf
      have hby := putk_bytes b0 (8 * k) a2 8
      by_cases ho : a3 = k
      · subst ho
        go_enter Try.func5, Try.ntmps5
        go_wp2_with (first
          | (go_at_call 9; refine (small_any _).mono ?_; rintro e w1 ⟨rfl, hbel⟩; have t0 := s0.below hbel)
          | (go_at_call 19; refine (put_ok _ _ _ z0 k _ _ t0 (by omega) hk hx.1 hx.2).mono ?_; rintro e w2 ⟨g, cap2, rfl, hown2, hbel2⟩; have q0 := t0.below hbel2; have q2 := hown2.sl)
          | (go_at_call 11; refine (get_any _ _ _ _ _ _ (by assumption) (by assumption) (by omega)).mono ?_; rintro e w' ⟨rfl, rfl⟩))
        go_ret
        exact ⟨rfl, hbel.trans (hbel2.mono hbel.size)⟩
      · obtain ⟨g3, g4⟩ := get_put_other z0 k a2 a3 (by omega) ho
        have hne : (a3 == (k : Int)) = false := by simpa using ho
        go_enter Try.func5, Try.ntmps5
        go_wp2_with (first
          | (go_at_call 9; refine (small_any _).mono ?_; rintro e w1 ⟨rfl, hbel⟩; have t0 := s0.below hbel)
          | (go_at_call 19; refine (put_ok _ _ _ z0 k _ _ t0 (by omega) hk hx.1 hx.2).mono ?_; rintro e w2 ⟨g, cap2, rfl, hown2, hbel2⟩; have q0 := t0.below hbel2; have q2 := hown2.sl)
          | (go_at_call 11; refine (get_any _ _ _ _ _ _ (by assumption) (by assumption) (by omega)).mono ?_; rintro e w' ⟨rfl, rfl⟩))
        go_ret
        exact ⟨rfl, hbel.trans (hbel2.mono hbel.size)⟩
    · have hh : hasB len0 a1 = true := hasB_t hp.1 hp.2
      have hf : fitB a2 = false := fitB_f hx
      go_enter Try.func5, Try.ntmps5
      go_wp2_with (first
        | (go_at_call 9; refine (small_any _).mono ?_; rintro e w1 ⟨rfl, hbel⟩)
        | (go_at_call 19; refine (put_num _ _ _ _ _ _ (by omega) hh hf).mono ?_; rintro e w' ⟨rfl, rfl⟩))
      go_ret
      exact ⟨rfl, hbel⟩
  · have hh : hasB len0 a1 = false := hasB_f hp
    go_enter Try.func5, Try.ntmps5
    go_wp2_with (first
      | (go_at_call 9; refine (small_any _).mono ?_; rintro e w1 ⟨rfl, hbel⟩)
      | (go_at_call 19; refine (put_arg _ _ _ _ _ _ (by omega) hh).mono ?_; rintro e w' ⟨rfl, rfl⟩))
    go_ret
    exact ⟨rfl, hbel⟩
end Go.Proofs.Ytdkkjpcgfloooaa
