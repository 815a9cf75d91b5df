/- The law 'CrcChains', walked. -/
import Derived.Test.YtinjgddhkmnllaaSmallCrc
import Derived.BigQuiet
namespace Go.Proofs.Ytinjgddhkmnllaa
open Go.RowKit

/-- A part of a slice that can be read, as slicing makes it. -/
theorem Sl.sliced {k : IntKind} {w : World} {ao : Option Addr} {n cap : Nat} {zs : List Int} (h : Sl k w ao n cap zs) (i j : Nat) (hij : i ≤ j) (hj : j ≤ n) :
    Sl k w (if cap = i then ao else ao.map (·.add (i * 1))) (j - i) (cap - i) ((zs.drop i).take (j - i)) := by
  have hlen := h.len
  have hroom := h.room
  refine ⟨by simp; omega, by omega, fun hn => ?_, fun hp => ?_⟩
  · by_cases hc : cap = i
    · omega
    · rw [if_neg hc] at hn
      have := h.void (by simpa using hn)
      omega
  · obtain ⟨b, off, rfl, hlt, hc⟩ := h.here (by omega)
    rw [if_neg (by omega)]
    refine ⟨b, off + i, by simp [Addr.add_lit], hlt, fun t ht => ?_⟩
    rw [Nat.add_assoc, hc (i + t) (by omega)]
    simp [List.getD, ht]

theorem quiet_same {P : Program} {f : FuncId} {args : Array Value} {w : World} {n : Nat} {v : Value} (h : Calls P f args (w.drewN n) fun e w' => e = .returned v ∧ w.drewN n = w') : Calls P f args (w.drewN n) fun e w'' => e = .returned v ∧ ∃ m, w'' = w.drewN m :=
  h.mono fun _ _ ⟨he, hm⟩ => ⟨he, n, hm.symm⟩

theorem crcChains_walk (w : World) (a0 : Option Addr) (len0 cap0 : Nat) (z0 : List Int) (s0 : Sl .u8 w a0 len0 cap0 z0) (f0 : ∀ n ∈ z0, (Lit.int .u8 n).wf = true) (c0 : cap0 * 1 ≤ 140737488351232)
    (a1 : Int) (_f1 : (Lit.int .i64 a1).wf = true) :
    Calls Try.prog 7 #[.slice a0 len0 cap0, .int .i64 a1] w fun e w' => e = .returned (.bool true) ∧ Below w.heap.size w w' := by
  have hr0 := s0.room
  have hl0 := s0.len
  have hb := bytes_wf f0
  clear f0
  have n0 : len0 ≤ 140737488355328 := by omega
  by_cases hbig : 1024 < len0
  · go_enter Try.func7, Try.ntmps7
    go_wp2_with (go_at_call 8; refine (small_any _).mono ?_; rintro e w1 ⟨rfl, hb1⟩)
    go_ret
    exact ⟨rfl, hb1⟩
  · go_enter Try.func7, Try.ntmps7
    go_wp2_with (go_at_call 8; refine (small_any _).mono ?_; rintro e w1 ⟨rfl, hb1⟩; have t0 := s0.below hb1)
    go_loop [6, 7] (fun q i => ∃ k : Nat, k ≤ len0 ∧ i = .int .i64 k ∧ q = .int .i64 (sumN 0 (z0.take k) : Nat)) (fun _ i => len0 - (intOf i).toNat)
    case atStart => exact ⟨0, Nat.zero_le _, rfl, by rw [List.take_zero, sumN_nil]; rfl⟩
    case round =>
      obtain ⟨k, hk, rfl, rfl⟩ := hrel
      by_cases hlt : k < len0
      · obtain ⟨b, off, rfl, hlb, hc⟩ := t0.here (by omega)
        obtain ⟨z, hz⟩ : ∃ z, z0.getD k 0 = z := ⟨_, rfl⟩
        have hzb : 0 ≤ z0.getD k 0 ∧ z0.getD k 0 ≤ 255 := hb.at k
        rw [hz] at hzb
        have hone : Sl .u8 w1 (some ⟨b, off + k, none⟩) 1 (cap0 - k) [z] := by
          refine ⟨rfl, by omega, (by intro h; cases h), fun _ => ⟨b, off + k, rfl, hlb, fun i hi => ?_⟩⟩
          obtain rfl : i = 0 := by omega
          rw [Nat.add_zero, hc k hlt, hz]
          rfl
        have hob : Bytes [z] := fun y hy => by simp at hy; subst hy; exact hzb
        have hsl := sumN_lt (s := 0) (by omega) (hb.take k)
        have HS : Hid (sumN 0 (z0.take (k + 1)) = sumN (sumN 0 (z0.take k)) [z]) := by
          show _ = _
          rw [sumN_append, take_succ' z0 k (by omega), ← hz]
          rfl
        have hs2 := sumN_lt hsl hob
        generalize sumN 0 (z0.take k) = s at *
        generalize hT : sumN s [z] = t at *
        have hcap : k + 1 ≤ cap0 := by omega
        clear hc hz t0 s0 hb
        go_wp2_with (go_at_call 11; refine (add_ok s _ _ _ [z] _ hsl hone hob (by omega)).mono ?_; rintro e w' ⟨rfl, rfl⟩; rw [hT])
        go_round
        case rel => exact ⟨k + 1, by omega, by go_num, by rw [HS.out]⟩
        case measure => simp [intOf]; omega
      · obtain rfl : k = len0 := by omega
        have e : z0.take k = z0 := List.take_of_length_le (by omega)
        rw [e]
        have hm3 : ∃ m : Nat, m ≤ k ∧ ((a1 < 0 ∧ m = 0) ∨ ((k : Int) < a1 ∧ m = k) ∨ a1 = (m : Int)) := by
          by_cases h1 : a1 < 0
          · exact ⟨0, Nat.zero_le _, Or.inl ⟨h1, rfl⟩⟩
          · by_cases h2 : (k : Int) < a1
            · exact ⟨k, Nat.le_refl _, Or.inr (Or.inl ⟨h2, rfl⟩)⟩
            · exact ⟨a1.toNat, by omega, Or.inr (Or.inr (by omega))⟩
        obtain ⟨m, hmk, hm3⟩ := hm3
        have hA : Sl .u8 w1 a0 m cap0 (z0.take m) := by
          refine ⟨by simp; omega, by omega, t0.void, fun hp => ?_⟩
          obtain ⟨b, off, rfl, hlb, hc⟩ := t0.here (by omega)
          refine ⟨b, off, rfl, hlb, fun i hi => ?_⟩
          rw [hc i (by omega)]
          simp [List.getD, hi]
        have hB := t0.sliced m k hmk (Nat.le_refl _)
        have hdt : (z0.drop m).take (k - m) = z0.drop m := List.take_of_length_le (by simp; omega)
        rw [hdt] at hB
        have hAb := hb.take m
        have hBb := hb.drop m
        have hsA := sumN_lt (s := 0) (by omega) hAb
        have hSS : sumN (sumN 0 (z0.take m)) (z0.drop m) = sumN 0 z0 := by rw [sumN_append, List.take_append_drop]
        have hmn : m ≤ 140737488355328 := by omega
        have hkn : k - m ≤ 140737488355328 := by omega
        have hmc : m ≤ cap0 := by omega
        have hmi : (m : Int) ≤ (cap0 : Int) := by omega
        have hki : (m : Int) ≤ (k : Int) := by omega
        generalize z0.take m = A at *
        generalize z0.drop m = D at *
        by_cases hcm : cap0 = m
        · rw [if_pos hcm] at hB
          have hkm : k = m := by omega
          subst hkm
          subst hcm
          rw [Nat.sub_self] at hB hkn
          have HH : Hid ((a1 < 0 ∧ cap0 = 0) ∨ (cap0 : Int) < a1 ∨ a1 = (cap0 : Int)) := by
            rcases hm3 with h | h | h
            · exact Or.inl h
            · exact Or.inr (Or.inl h.1)
            · exact Or.inr (Or.inr h)
          clear hm3
          rcases HH.out with ⟨hx, rfl⟩ | hx | rfl
          · go_wp2
            go_quiet (first
              | (go_at_call 10; refine quiet_same (sum_any _ _ _ A _ ?_ hAb hmn); exact hA.below (below_drewN (Below.refl _ _) _))
              | (go_at_call 11; refine quiet_same (add_ok (sumN 0 A) _ _ _ D _ hsA ?_ hBb hkn); exact hB.below (below_drewN (Below.refl _ _) _)))
            go_wp2_with (go_at_call 10; refine (sum_any _ _ _ z0 _ (t0.below (below_drewN (Below.refl _ _) nq)) hb n0).mono ?_; rintro e w' ⟨rfl, rfl⟩)
            go_ret
            exact ⟨rfl, below_drewN hb1 _⟩
          · go_wp2
            go_quiet (first
              | (go_at_call 10; refine quiet_same (sum_any _ _ _ A _ ?_ hAb hmn); exact hA.below (below_drewN (Below.refl _ _) _))
              | (go_at_call 11; refine quiet_same (add_ok (sumN 0 A) _ _ _ D _ hsA ?_ hBb hkn); exact hB.below (below_drewN (Below.refl _ _) _)))
            go_wp2_with (go_at_call 10; refine (sum_any _ _ _ z0 _ (t0.below (below_drewN (Below.refl _ _) nq)) hb n0).mono ?_; rintro e w' ⟨rfl, rfl⟩)
            go_ret
            exact ⟨rfl, below_drewN hb1 _⟩
          · go_wp2
            go_quiet (first
              | (go_at_call 10; refine quiet_same (sum_any _ _ _ A _ ?_ hAb hmn); exact hA.below (below_drewN (Below.refl _ _) _))
              | (go_at_call 11; refine quiet_same (add_ok (sumN 0 A) _ _ _ D _ hsA ?_ hBb hkn); exact hB.below (below_drewN (Below.refl _ _) _)))
            go_wp2_with (go_at_call 10; refine (sum_any _ _ _ z0 _ (t0.below (below_drewN (Below.refl _ _) nq)) hb n0).mono ?_; rintro e w' ⟨rfl, rfl⟩)
            go_ret
            exact ⟨rfl, below_drewN hb1 _⟩
        · rw [if_neg hcm] at hB
          by_cases hk0 : 0 < k
          · obtain ⟨b, off, rfl, -, -⟩ := t0.here hk0
            have hB : Sl .u8 w1 (some ⟨b, off + m, none⟩) (k - m) (cap0 - m) D := by simpa [Addr.add_lit] using hB
            rcases hm3 with ⟨hx, rfl⟩ | ⟨hx, rfl⟩ | rfl
            · have hB : Sl .u8 w1 (some ⟨b, off, none⟩) k cap0 D := by simpa using hB
              go_wp2
              go_quiet (first
                | (go_at_call 10; refine quiet_same (sum_any _ _ _ A _ ?_ hAb hmn); exact hA.below (below_drewN (Below.refl _ _) _))
                | (go_at_call 11; refine quiet_same (add_ok (sumN 0 A) _ _ _ D _ hsA ?_ hBb hkn); exact hB.below (below_drewN (Below.refl _ _) _)))
              go_wp2_with (go_at_call 10; refine (sum_any _ _ _ z0 _ (t0.below (below_drewN (Below.refl _ _) nq)) hb n0).mono ?_; rintro e w' ⟨rfl, rfl⟩)
              go_ret
              exact ⟨rfl, below_drewN hb1 _⟩
            · rw [Nat.sub_self] at hB hkn
              go_wp2
              go_quiet (first
                | (go_at_call 10; refine quiet_same (sum_any _ _ _ A _ ?_ hAb hmn); exact hA.below (below_drewN (Below.refl _ _) _))
                | (go_at_call 11; refine quiet_same (add_ok (sumN 0 A) _ _ _ D _ hsA ?_ hBb hkn); exact hB.below (below_drewN (Below.refl _ _) _)))
              go_wp2_with (go_at_call 10; refine (sum_any _ _ _ z0 _ (t0.below (below_drewN (Below.refl _ _) nq)) hb n0).mono ?_; rintro e w' ⟨rfl, rfl⟩)
              go_ret
              exact ⟨rfl, below_drewN hb1 _⟩
            · go_wp2
              go_quiet (first
                | (go_at_call 10; refine quiet_same (sum_any _ _ _ A _ ?_ hAb hmn); exact hA.below (below_drewN (Below.refl _ _) _))
                | (go_at_call 11; refine quiet_same (add_ok (sumN 0 A) _ _ _ D _ hsA ?_ hBb hkn); exact hB.below (below_drewN (Below.refl _ _) _)))
              go_wp2_with (go_at_call 10; refine (sum_any _ _ _ z0 _ (t0.below (below_drewN (Below.refl _ _) nq)) hb n0).mono ?_; rintro e w' ⟨rfl, rfl⟩)
              go_ret
              exact ⟨rfl, below_drewN hb1 _⟩
          · obtain rfl : k = 0 := by omega
            obtain rfl : m = 0 := by omega
            have hB' : ∀ a c, Sl .u8 w1 (some a) 0 c D := fun a c => ⟨hB.len, Nat.zero_le _, (by intro h; cases h), fun h => absurd h (by omega)⟩
            have hA' : ∀ a c, Sl .u8 w1 (some a) 0 c A := fun a c => ⟨hA.len, Nat.zero_le _, (by intro h; cases h), fun h => absurd h (by omega)⟩
            cases a0 with
            | none => exact absurd (t0.void rfl) hcm
            | some a =>
              rcases hm3 with ⟨hx, _⟩ | ⟨hx, _⟩ | rfl
              · go_wp2
                go_quiet (first
                  | (go_at_call 10; refine quiet_same (sum_any _ _ _ A _ ?_ hAb hmn); exact (hA' _ _).below (below_drewN (Below.refl _ _) _))
                  | (go_at_call 11; refine quiet_same (add_ok (sumN 0 A) _ _ _ D _ hsA ?_ hBb hkn); exact (hB' _ _).below (below_drewN (Below.refl _ _) _)))
                go_wp2_with (go_at_call 10; refine (sum_any _ _ _ z0 _ (t0.below (below_drewN (Below.refl _ _) nq)) hb n0).mono ?_; rintro e w' ⟨rfl, rfl⟩)
                go_ret
                exact ⟨rfl, below_drewN hb1 _⟩
              · go_wp2
                go_quiet (first
                  | (go_at_call 10; refine quiet_same (sum_any _ _ _ A _ ?_ hAb hmn); exact (hA' _ _).below (below_drewN (Below.refl _ _) _))
                  | (go_at_call 11; refine quiet_same (add_ok (sumN 0 A) _ _ _ D _ hsA ?_ hBb hkn); exact (hB' _ _).below (below_drewN (Below.refl _ _) _)))
                go_wp2_with (go_at_call 10; refine (sum_any _ _ _ z0 _ (t0.below (below_drewN (Below.refl _ _) nq)) hb n0).mono ?_; rintro e w' ⟨rfl, rfl⟩)
                go_ret
                exact ⟨rfl, below_drewN hb1 _⟩
              · go_wp2
                go_quiet (first
                  | (go_at_call 10; refine quiet_same (sum_any _ _ _ A _ ?_ hAb hmn); exact (hA' _ _).below (below_drewN (Below.refl _ _) _))
                  | (go_at_call 11; refine quiet_same (add_ok (sumN 0 A) _ _ _ D _ hsA ?_ hBb hkn); exact (hB' _ _).below (below_drewN (Below.refl _ _) _)))
                go_wp2_with (go_at_call 10; refine (sum_any _ _ _ z0 _ (t0.below (below_drewN (Below.refl _ _) nq)) hb n0).mono ?_; rintro e w' ⟨rfl, rfl⟩)
                go_ret
                exact ⟨rfl, below_drewN hb1 _⟩
end Go.Proofs.Ytinjgddhkmnllaa
