/- The law 'WordsOrders', walked. -/
import Derived.Test.YtdkkjpcgfloooaaSmall
namespace Go.Proofs.Ytdkkjpcgfloooaa
open Go.RowKit

theorem hasB_none (p : Int) : hasB 0 p = false := hasB_f (by omega)

theorem open_ok {n : Nat} {p x : Int} (h : (hasB n p && fitB x) = true) : ∃ k : Nat, p = k ∧ 8 * k + 8 ≤ n ∧ 0 ≤ x ∧ x ≤ 4611686018427387903 ∧ fitB x = true := by
  rw [Bool.and_eq_true] at h
  have h1 : 0 ≤ p ∧ p < (n : Int) / 8 := by simpa [hasB] using h.1
  obtain ⟨k, rfl⟩ := Int.eq_ofNat_of_zero_le h1.1
  exact ⟨k, rfl, by omega, (fitB_and h.2).1, (fitB_and h.2).2, h.2⟩

theorem wordsOrders_walk (w : World) (a0 : Option Addr) (len0 cap0 : Nat) (z0 : List Int) (s0 : Sl .i64 w a0 len0 cap0 z0) (_f0 : ∀ n ∈ z0, (Lit.int .i64 n).wf = true) (c0 : cap0 * 8 ≤ 140737488351232)
    (a1 : Int) (_f1 : (Lit.int .i64 a1).wf = true) (a2 : Int) (_f2 : (Lit.int .i64 a2).wf = true) (a3 : Int) (_f3 : (Lit.int .i64 a3).wf = true) (a4 : Int) (_f4 : (Lit.int .i64 a4).wf = true) :
    Calls Try.prog 8 #[.slice a0 len0 cap0, .int .i64 a1, .int .i64 a2, .int .i64 a3, .int .i64 a4] w fun e w' => e = .returned (.bool true) ∧ Below w.heap.size w w' := by
  have hr0 := s0.room
  have hl0 := s0.len
  have n0 : len0 * 8 ≤ 140737488355328 := by omega
  have nz : 0 ≤ 140737488355328 := by omega
  by_cases hok : okL z0 = true
  · have hlo := ofL_length z0
    by_cases hik : a1 = a2
    · subst hik
      go_enter Try.func8, Try.ntmps8
      go_wp2_with (first
        | (go_at_call 9; refine (small_any _).mono ?_; rintro e w1 ⟨rfl, hbel⟩; have t0 := s0.below hbel)
        | (go_at_call 20; refine (of_any _ _ _ z0 _ t0 n0).mono ?_; rintro e w2 ⟨ao2, m2, cap2, rfl, hown2, hbel2⟩; rw [ofE_t hok]))
      go_ret
      exact ⟨rfl, next hbel hbel2⟩
    · have hik' : (a1 == a2) = false := by simpa using hik
      by_cases hI : (hasB (len0 * 8) a1 && fitB a3) = true
      · by_cases hK : (hasB (len0 * 8) a2 && fitB a4) = true
        · obtain ⟨i, rfl, hi8, hx1, hx2, hfn⟩ := open_ok hI
          clear hI
          obtain ⟨k, rfl, hk8, hy1, hy2, hfm⟩ := open_ok hK
          clear hK
          have hne : i ≠ k := fun e => hik (by rw [e])
          have hXY := put_put (ofL z0) i k a3 a4 (by omega) (by omega) hne
          have hbX : Bytes (putk (putk (ofL z0) (8 * i) a3 8) (8 * k) a4 8) := putk_bytes (putk_bytes (ofL_bytes z0) _ _ _) _ _ _
          have HG : Hid (∀ p, p < len0 → getN (putk (putk (ofL z0) (8 * i) a3 8) (8 * k) a4 8) p = want z0 i k a3 a4 p ∧ getB (putk (putk (ofL z0) (8 * i) a3 8) (8 * k) a4 8) p = true) := fun p hp => get_two hok i k a3 a4 (by omega) (by omega) hfn hfm p (by omega)
          have HX : Hid (putk (putk (ofL z0) (8 * i) a3 8) (8 * k) a4 8 = putk (putk (ofL z0) (8 * k) a4 8) (8 * i) a3 8) := hXY
          clear hXY
          go_enter Try.func8, Try.ntmps8
          go_wp2_with (first
            | (go_at_call 9; refine (small_any _).mono ?_; rintro e w1 ⟨rfl, hbel⟩; have t0 := s0.below hbel)
            | (go_at_call 20; refine (of_any _ _ _ z0 _ t0 n0).mono ?_; rintro e w2 ⟨ao2, m2, cap2, rfl, hown2, hbel2⟩; rw [ofE_t hok]; rw [ofR_t hok] at hown2; have hl2 := hown2.len; obtain rfl : m2 = len0 * 8 := (by omega); have q0 := t0.below hbel2; have q2 := hown2.sl)
            | (go_at_call 19; with_reducible refine (put_ok _ _ _ (ofL z0) i a3 w2 q2 n0 hi8 hx1 hx2).mono ?_; rintro e w3 ⟨g3, cap3, rfl, hown3, hbel3⟩; have r0 := q0.below hbel3; have r2 := q2.below hbel3; have r3 := hown3.sl)
            | (go_at_call 19; with_reducible refine (put_ok _ _ _ _ k a4 w3 r3 n0 hk8 hy1 hy2).mono ?_; rintro e w4 ⟨g4, cap4, rfl, hown4, hbel4⟩; have u0 := r0.below hbel4; have u2 := r2.below hbel4; have u4 := hown4.sl)
            | (go_at_call 19; with_reducible refine (put_ok _ _ _ (ofL z0) k a4 w4 u2 n0 hk8 hy1 hy2).mono ?_; rintro e w5 ⟨g5, cap5, rfl, hown5, hbel5⟩; have v0 := u0.below hbel5; have v4 := u4.below hbel5; have v5 := hown5.sl)
            | (go_at_call 19; with_reducible refine (put_ok _ _ _ _ i a3 w5 v5 n0 hi8 hx1 hx2).mono ?_; rintro e w6 ⟨g6, cap6, rfl, hown6, hbel6⟩; have y0 := v0.below hbel6; have y4 := v4.below hbel6; have y6 := hown6.sl; rw [← HX.out] at y6))
          have fin : Below w.heap.size w w6 := next (next (next (next (next hbel hbel2) hbel3) hbel4) hbel5) hbel6
          have hc4 := y4.text (P := Try.prog) Try.underlying22 Try.underlying5 Try.underlying9
          have hc6 := y6.text (P := Try.prog) Try.underlying22 Try.underlying5 Try.underlying9
          clear hbel hbel2 hbel3 hbel4 hbel5 hbel6 hown2 hown3 hown4 hown5 hown6 s0 t0 q0 q2 r0 r2 r3 u0 u2 u4 v0 v4 v5 y6 HX
          generalize hX : putk (putk (ofL z0) (8 * i) a3 8) (8 * k) a4 8 = X at y4 hbX HG hc4 hc6
          clear hX
          go_loop [20] (fun t => ∃ p : Nat, p ≤ len0 ∧ t = .int .i64 p) (fun t => len0 - (intOf t).toNat)
          case atStart => exact ⟨0, Nat.zero_le _, rfl⟩
          case round =>
            obtain ⟨p, hp, rfl⟩ := hrel
            by_cases hlt : p < len0
            · obtain ⟨hgN, hgB⟩ := HG.out p hlt
              obtain ⟨b, off, rfl, _, hc⟩ := y0.here (by omega)
              obtain ⟨z, hz⟩ : ∃ z, z0.getD p 0 = z := ⟨_, rfl⟩
              have hcell := hc p hlt
              rw [hz] at hcell
              clear hc y0 hc4 hc6
              by_cases hpk : p = k
              · subst hpk
                rw [want_k] at hgN
                have e1 : ((p : Int) == (i : Int)) = false := by simp; omega
                have e2 : ((p : Int) == (p : Int)) = true := by simp
                clear hz
                go_wp2_with (go_at_call 11; refine (get_any _ _ _ X _ _ y4 hbX n0).mono ?_; rintro e w' ⟨rfl, rfl⟩)
                go_round
                case rel => exact ⟨p + 1, by omega, by go_num⟩
                case measure => simp [intOf]; omega
              · by_cases hpi : p = i
                · subst hpi
                  rw [want_i _ _ _ _ _ hpk] at hgN
                  have e1 : ((p : Int) == (p : Int)) = true := by simp
                  have e2 : ((p : Int) == (k : Int)) = false := by simp; omega
                  clear hz
                  go_wp2_with (go_at_call 11; refine (get_any _ _ _ X _ _ y4 hbX n0).mono ?_; rintro e w' ⟨rfl, rfl⟩)
                  go_round
                  case rel => exact ⟨p + 1, by omega, by go_num⟩
                  case measure => simp [intOf]; omega
                · rw [want_p _ _ _ _ _ _ hpi hpk, hz] at hgN
                  have e1 : ((p : Int) == (i : Int)) = false := by simp; omega
                  have e2 : ((p : Int) == (k : Int)) = false := by simp; omega
                  clear hz
                  go_wp2_with (go_at_call 11; refine (get_any _ _ _ X _ _ y4 hbX n0).mono ?_; rintro e w' ⟨rfl, rfl⟩)
                  go_round
                  case rel => exact ⟨p + 1, by omega, by go_num⟩
                  case measure => simp [intOf]; omega
            · obtain rfl : p = len0 := by omega
              go_wp2
              go_ret
              exact ⟨rfl, fin⟩
        · have hK : (hasB (len0 * 8) a2 && fitB a4) = false := by simpa using hK
          have hz2 : (hasB 0 a2 && fitB a4) = false := by rw [hasB_none]; rfl
          have hz1 : (hasB 0 a1 && fitB a3) = false := by rw [hasB_none]; rfl
          obtain ⟨i, rfl, hi8, hx1, hx2, hfn⟩ := open_ok hI
          clear hI
          have HK : Hid ((hasB (len0 * 8) a2 && fitB a4) = false) := hK
          clear hK
          go_enter Try.func8, Try.ntmps8
          go_wp2_with (first
            | (go_at_call 9; refine (small_any _).mono ?_; rintro e w1 ⟨rfl, hbel⟩; have t0 := s0.below hbel)
            | (go_at_call 20; refine (of_any _ _ _ z0 _ t0 n0).mono ?_; rintro e w2 ⟨ao2, m2, cap2, rfl, hown2, hbel2⟩; rw [ofE_t hok]; rw [ofR_t hok] at hown2; have hl2 := hown2.len; obtain rfl : m2 = len0 * 8 := (by omega); have q0 := t0.below hbel2; have q2 := hown2.sl)
            | (go_at_call 19; with_reducible refine (put_ok _ _ _ (ofL z0) i a3 w2 q2 n0 hi8 hx1 hx2).mono ?_; rintro e w3 ⟨g3, cap3, rfl, hown3, hbel3⟩)
            | (go_at_call 19; with_reducible refine (put_bad _ _ _ a2 a4 w3 n0 HK.out).mono ?_; rintro e w' ⟨c2, rfl, hc2, rfl⟩)
            | (go_at_call 19; with_reducible refine (put_bad _ _ _ (i : Int) a3 w3 nz hz1).mono ?_; rintro e w' ⟨c4, rfl, hc4, rfl⟩))
          go_ret
          exact ⟨rfl, next (next hbel hbel2) hbel3⟩
      · have hI : (hasB (len0 * 8) a1 && fitB a3) = false := by simpa using hI
        by_cases hK : (hasB (len0 * 8) a2 && fitB a4) = true
        · have hz2 : (hasB 0 a2 && fitB a4) = false := by rw [hasB_none]; rfl
          have hz1 : (hasB 0 a1 && fitB a3) = false := by rw [hasB_none]; rfl
          have HI : Hid ((hasB (len0 * 8) a1 && fitB a3) = false) := hI
          clear hI
          obtain ⟨k, rfl, hk8, hy1, hy2, hfm⟩ := open_ok hK
          clear hK
          go_enter Try.func8, Try.ntmps8
          go_wp2_with (first
            | (go_at_call 9; refine (small_any _).mono ?_; rintro e w1 ⟨rfl, hbel⟩; have t0 := s0.below hbel)
            | (go_at_call 20; refine (of_any _ _ _ z0 _ t0 n0).mono ?_; rintro e w2 ⟨ao2, m2, cap2, rfl, hown2, hbel2⟩; rw [ofE_t hok]; rw [ofR_t hok] at hown2; have hl2 := hown2.len; obtain rfl : m2 = len0 * 8 := (by omega); have q0 := t0.below hbel2; have q2 := hown2.sl)
            | (go_at_call 19; with_reducible refine (put_bad _ _ _ a1 a3 w2 n0 HI.out).mono ?_; rintro e w' ⟨c1, rfl, hc1, rfl⟩)
            | (go_at_call 19; with_reducible refine (put_bad _ _ _ (k : Int) a4 w2 nz hz2).mono ?_; rintro e w' ⟨c2, rfl, hc2, rfl⟩)
            | (go_at_call 19; with_reducible refine (put_ok _ _ _ (ofL z0) k a4 w2 q2 n0 hk8 hy1 hy2).mono ?_; rintro e w3 ⟨g3, cap3, rfl, hown3, hbel3⟩)
            | (go_at_call 19; with_reducible refine (put_bad _ _ _ a1 a3 w3 n0 HI.out).mono ?_; rintro e w' ⟨c3, rfl, hc3, rfl⟩))
          go_ret
          exact ⟨rfl, next (next hbel hbel2) hbel3⟩
        · have hK : (hasB (len0 * 8) a2 && fitB a4) = false := by simpa using hK
          have HI : Hid ((hasB (len0 * 8) a1 && fitB a3) = false) := hI
          have HK : Hid ((hasB (len0 * 8) a2 && fitB a4) = false) := hK
          clear hI hK
          have n2 : len0 * 8 ≤ 140737488355328 := n0
          have hz2 : (hasB 0 a2 && fitB a4) = false := by rw [hasB_none]; rfl
          have hz1 : (hasB 0 a1 && fitB a3) = false := by rw [hasB_none]; rfl
          go_enter Try.func8, Try.ntmps8
          go_wp2_with (first
            | (go_at_call 9; refine (small_any _).mono ?_; rintro e w1 ⟨rfl, hbel⟩; have t0 := s0.below hbel)
            | (go_at_call 20; refine (of_any _ _ _ z0 _ t0 n0).mono ?_; rintro e w2 ⟨ao2, m2, cap2, rfl, hown2, hbel2⟩; rw [ofE_t hok]; rw [ofR_t hok] at hown2; have hl2 := hown2.len; obtain rfl : m2 = len0 * 8 := by omega)
            | (go_at_call 19; with_reducible refine (put_bad _ _ _ a1 a3 w2 n2 HI.out).mono ?_; rintro e w' ⟨c1, rfl, hc1, rfl⟩)
            | (go_at_call 19; with_reducible refine (put_bad _ _ _ a2 a4 w2 nz hz2).mono ?_; rintro e w' ⟨c2, rfl, hc2, rfl⟩)
            | (go_at_call 19; with_reducible refine (put_bad _ _ _ a2 a4 w2 n2 HK.out).mono ?_; rintro e w' ⟨c3, rfl, hc3, rfl⟩)
            | (go_at_call 19; with_reducible refine (put_bad _ _ _ a1 a3 w2 nz hz1).mono ?_; rintro e w' ⟨c4, rfl, hc4, rfl⟩))
          go_ret
          exact ⟨rfl, next hbel hbel2⟩
  · have hok : okL z0 = false := by simpa using hok
    go_enter Try.func8, Try.ntmps8
    go_wp2_with (first
      | (go_at_call 9; refine (small_any _).mono ?_; rintro e w1 ⟨rfl, hbel⟩; have t0 := s0.below hbel)
      | (go_at_call 20; refine (of_any _ _ _ z0 _ t0 n0).mono ?_; rintro e w2 ⟨ao2, m2, cap2, rfl, hown2, hbel2⟩; rw [ofE_f hok]; rw [ofR_f hok] at hown2; obtain rfl : m2 = 0 := hown2.len.symm))
    go_ret
    exact ⟨rfl, next hbel hbel2⟩
end Go.Proofs.Ytdkkjpcgfloooaa
