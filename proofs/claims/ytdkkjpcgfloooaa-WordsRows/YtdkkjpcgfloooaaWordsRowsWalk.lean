/- The law 'WordsRows', walked. -/
import Derived.Test.YtdkkjpcgfloooaaSmall
import Derived.Test.YtdkkjpcgfloooaaAll
import Derived.Test.YtdkkjpcgfloooaaSame
namespace Go.Proofs.Ytdkkjpcgfloooaa
open Go.RowKit

/-- Its second half, from All(b) on, is the same on both ways. -/
theorem wordsRows_walk (w : World) (a0 : Option Addr) (len0 cap0 : Nat) (z0 : List Int) (s0 : Sl .i64 w a0 len0 cap0 z0) (_f0 : ∀ n ∈ z0, (Lit.int .i64 n).wf = true) (c0 : cap0 * 8 ≤ 140737488351232)
    (a1 : Option Addr) (len1 cap1 : Nat) (z1 : List Int) (s1 : Sl .u8 w a1 len1 cap1 z1) (f1 : ∀ n ∈ z1, (Lit.int .u8 n).wf = true) (c1 : cap1 * 1 ≤ 140737488351232) :
    Calls Try.prog 6 #[.slice a0 len0 cap0, .slice a1 len1 cap1] w fun e w' => e = .returned (.bool true) ∧ Below w.heap.size w w' := by
  have hr0 := s0.room
  have hl0 := s0.len
  have hr1 := s1.room
  have hl1 := s1.len
  have b1 := bytes_wf f1
  clear f1
  have n0 : len0 * 8 ≤ 140737488355328 := by omega
  have n1 : len1 ≤ 140737488355328 := by omega
  by_cases hal : allB z1 = true
  · obtain ⟨hok2, hof2⟩ := of_all b1 hal
    have hal5 : (allR z1).length * 8 = z1.length := by rw [← ofL_length, hof2]
    by_cases hok : okL z0 = true
    · obtain ⟨ha, hr⟩ := all_of hok
      have hlo := ofL_length z0
      go_enter Try.func6, Try.ntmps6
      go_wp2_with (first
        | (go_at_call 9; refine (small_any _).mono ?_; rintro e w1 ⟨rfl, hbel⟩; have t0 := s0.below hbel; have t1 := s1.below hbel)
        | (go_at_call 20; with_reducible refine (of_any _ _ _ z0 _ t0 n0).mono ?_; rintro e w2 ⟨ao2, m2, cap2, rfl, hown2, hbel2⟩; rw [ofE_t hok]; rw [ofR_t hok] at hown2; have q0 := t0.below hbel2; have q1 := t1.below hbel2; have q2 := hown2.sl; have hl2 := q2.len; have b2 := ofL_bytes z0; have n2 : m2 ≤ 140737488355328 := by omega)
        | (go_at_call 12; with_reducible refine (all_any _ _ _ (ofL z0) _ q2 b2 n2).mono ?_; rintro e w3 ⟨ao3, m3, cap3, rfl, hown3, hbel3⟩; rw [hr] at hown3; rw [ha]; have r0 := q0.below hbel3; have r1 := q1.below hbel3; have r3 := hown3.sl; have hl3 := r3.len)
        | (go_at_call 17; refine (same_any _ _ _ z0 _ _ _ z0 _ r0 r3 (by omega) (by omega)).mono ?_; rintro e w4 ⟨rfl, hbel4⟩; have v1 := r1.below hbel4)
        | (go_at_call 12; with_reducible refine (all_any _ _ _ z1 _ v1 b1 n1).mono ?_; rintro e w5 ⟨ao5, m5, cap5, rfl, hown5, hbel5⟩; rw [hal]; have x1 := v1.below hbel5; have x5 := hown5.sl; have hl5 := x5.len; have n5 : m5 * 8 ≤ 140737488355328 := by omega)
        | (go_at_call 20; with_reducible refine (of_any _ _ _ (allR z1) _ x5 n5).mono ?_; rintro e w6 ⟨ao6, m6, cap6, rfl, hown6, hbel6⟩; rw [ofE_t hok2]; rw [ofR_t hok2, hof2] at hown6; have y1 := x1.below hbel6; have y6 := hown6.sl; have hc1 := y1.text (P := Try.prog) Try.underlying22 Try.underlying5 Try.underlying9; have hc6 := y6.text (P := Try.prog) Try.underlying22 Try.underlying5 Try.underlying9))
      go_ret
      exact ⟨rfl, next (next (next (next (next hbel hbel2) hbel3) hbel4) hbel5) hbel6⟩
    · have hok : okL z0 = false := by simpa using hok
      go_enter Try.func6, Try.ntmps6
      go_wp2_with (first
        | (go_at_call 9; refine (small_any _).mono ?_; rintro e w1 ⟨rfl, hbel⟩; have t0 := s0.below hbel; have t1 := s1.below hbel)
        | (go_at_call 20; with_reducible refine (of_any _ _ _ z0 _ t0 n0).mono ?_; rintro e w4 ⟨ao2, m2, cap2, rfl, hown2, hbel4⟩; rw [ofE_f hok]; have v1 := t1.below hbel4)
        | (go_at_call 12; with_reducible refine (all_any _ _ _ z1 _ v1 b1 n1).mono ?_; rintro e w5 ⟨ao5, m5, cap5, rfl, hown5, hbel5⟩; rw [hal]; have x1 := v1.below hbel5; have x5 := hown5.sl; have hl5 := x5.len; have n5 : m5 * 8 ≤ 140737488355328 := by omega)
        | (go_at_call 20; with_reducible refine (of_any _ _ _ (allR z1) _ x5 n5).mono ?_; rintro e w6 ⟨ao6, m6, cap6, rfl, hown6, hbel6⟩; rw [ofE_t hok2]; rw [ofR_t hok2, hof2] at hown6; have y1 := x1.below hbel6; have y6 := hown6.sl; have hc1 := y1.text (P := Try.prog) Try.underlying22 Try.underlying5 Try.underlying9; have hc6 := y6.text (P := Try.prog) Try.underlying22 Try.underlying5 Try.underlying9))
      go_ret
      exact ⟨rfl, next (next (next hbel hbel4) hbel5) hbel6⟩
  · have hal : allB z1 = false := by simpa using hal
    by_cases hok : okL z0 = true
    · obtain ⟨ha, hr⟩ := all_of hok
      have hlo := ofL_length z0
      go_enter Try.func6, Try.ntmps6
      go_wp2_with (first
        | (go_at_call 9; refine (small_any _).mono ?_; rintro e w1 ⟨rfl, hbel⟩; have t0 := s0.below hbel; have t1 := s1.below hbel)
        | (go_at_call 20; with_reducible refine (of_any _ _ _ z0 _ t0 n0).mono ?_; rintro e w2 ⟨ao2, m2, cap2, rfl, hown2, hbel2⟩; rw [ofE_t hok]; rw [ofR_t hok] at hown2; have q0 := t0.below hbel2; have q1 := t1.below hbel2; have q2 := hown2.sl; have hl2 := q2.len; have b2 := ofL_bytes z0; have n2 : m2 ≤ 140737488355328 := by omega)
        | (go_at_call 12; with_reducible refine (all_any _ _ _ (ofL z0) _ q2 b2 n2).mono ?_; rintro e w3 ⟨ao3, m3, cap3, rfl, hown3, hbel3⟩; rw [hr] at hown3; rw [ha]; have r0 := q0.below hbel3; have r1 := q1.below hbel3; have r3 := hown3.sl; have hl3 := r3.len)
        | (go_at_call 17; refine (same_any _ _ _ z0 _ _ _ z0 _ r0 r3 (by omega) (by omega)).mono ?_; rintro e w4 ⟨rfl, hbel4⟩; have v1 := r1.below hbel4)
        | (go_at_call 12; with_reducible refine (all_any _ _ _ z1 _ v1 b1 n1).mono ?_; rintro e w5 ⟨ao5, m5, cap5, rfl, hown5, hbel5⟩; rw [hal]; have x1 := v1.below hbel5; have x5 := hown5.sl; have hl5 := x5.len))
      go_ret
      exact ⟨ret_bool (by rw [← hl5, allR_f hal]; rfl), next (next (next (next hbel hbel2) hbel3) hbel4) hbel5⟩
    · have hok : okL z0 = false := by simpa using hok
      go_enter Try.func6, Try.ntmps6
      go_wp2_with (first
        | (go_at_call 9; refine (small_any _).mono ?_; rintro e w1 ⟨rfl, hbel⟩; have t0 := s0.below hbel; have t1 := s1.below hbel)
        | (go_at_call 20; with_reducible refine (of_any _ _ _ z0 _ t0 n0).mono ?_; rintro e w4 ⟨ao2, m2, cap2, rfl, hown2, hbel4⟩; rw [ofE_f hok]; have v1 := t1.below hbel4)
        | (go_at_call 12; with_reducible refine (all_any _ _ _ z1 _ v1 b1 n1).mono ?_; rintro e w5 ⟨ao5, m5, cap5, rfl, hown5, hbel5⟩; rw [hal]; have x1 := v1.below hbel5; have x5 := hown5.sl; have hl5 := x5.len))
      go_ret
      exact ⟨ret_bool (by rw [← hl5, allR_f hal]; rfl), next (next hbel hbel4) hbel5⟩
end Go.Proofs.Ytdkkjpcgfloooaa
