/- 'WalBack': the walk. -/
import Derived.Test.YtgiippbjieecmaaWalBackM
import Derived.Test.YtgiippbjieecmaaMgH
import Derived.Test.YtgiippbjieecmaaFew
import Derived.Test.YtgiippbjieecmaaRefWR
import Derived.Test.YtgiippbjieecmaaRefSameC
namespace Go.Proofs.Ytgiippbjieecmaa
set_option maxRecDepth 100000
open Go.RowKit
set_option linter.unusedVariables false

def backOk (n m : Nat) (D : Nat → ChD) (g : Lg) : Bool := fewB D m && (decide (n ≤ 8192) && (decide (n % 64 = 0) && (decide (writeE g (saysN D m) = 0) && (rightG g ((n / 64 : Nat) : Int) && rightB ((n / 64 : Nat) : Int) D m))))
set_option maxHeartbeats 3200000 in
theorem back_off (w : World) (a0 : Option Addr) (n cap : Nat) (hn9 : n ≤ 9223372036854775807) (M F R : Int) (hg : (Lg.mk M F R).Ok) (lo : Option Addr) (m lc : Nat) (D : Nat → ChD) (h : Chs w lo m D) (hB : backOk n m D ⟨M, F, R⟩ = false) :
    Calls Try.prog 6 #[.slice a0 n cap, .agg #[.int .i64 M, .int .i64 F, .int .i64 R], .slice lo m lc] w fun e w' => e = .returned (.bool true) ∧ Below w.heap.size w w' := by
  have hb := (Below.refl w.heap.size w).alloc (Nat.le_refl _) (.cells #[.int .i64 M, .int .i64 F, .int .i64 R] 23)
  have hL := logAt_new w M F R
  have hm9 := h.fit
  have cS := wsmall_any (w.alloc (.cells #[.int .i64 M, .int .i64 F, .int .i64 R] 23))
  unfold backOk at hB
  have eq : (n : Int) / 64 = ((n / 64 : Nat) : Int) := by omega
  have rg : Rg ((n / 64 : Nat) : Int) := by unfold Rg; omega
  cases hf : fewB D m with
  | false =>
    clear hB
    generalize n / 64 = N at *
    go_enter Try.func6, Try.ntmps6
    go_wp2_with (first
      | (go_at_call 8; with_reducible refine cS.mono ?_; rintro e w1 ⟨rfl, hb1⟩; have h1 := h.below (next hb hb1); have hL1 := hL.below hb1; obtain ⟨c0, c1, c2⟩ := And.intro hL1.c0 (And.intro hL1.c1 hL1.c2); have cF := few_any lo m lc D w1 h1; rw [hf] at cF)
      | (go_at_call 9; with_reducible refine cF.mono ?_; rintro e w2 ⟨rfl, rfl⟩))
    go_ret
    exact ⟨rfl, next hb hb1⟩
  | true =>
    rw [hf] at hB
    by_cases h1 : n ≤ 8192
    · have h1' : ¬ ((8192 : Int) < (n : Int)) := by omega
      by_cases h2 : n % 64 = 0
      · have h2' : ((n : Int) % 64 != 0) = false := by simp; omega
        obtain ⟨E, hE⟩ : ∃ E, writeE ⟨M, F, R⟩ (saysN D m) = E := ⟨_, rfl⟩
        by_cases hE0 : E = 0
        · subst hE0
          cases h3 : rightG ⟨M, F, R⟩ ((n / 64 : Nat) : Int) with
          | false =>
            clear hB h1 h2
            generalize n / 64 = N at *
            go_enter Try.func6, Try.ntmps6
            go_wp2_with (first
              | (go_at_call 8; with_reducible refine cS.mono ?_; rintro e w1 ⟨rfl, hb1⟩; have h1 := h.below (next hb hb1); have hL1 := hL.below hb1; obtain ⟨c0, c1, c2⟩ := And.intro hL1.c0 (And.intro hL1.c1 hL1.c2); have cF := few_any lo m lc D w1 h1; rw [hf] at cF; have cW := write_any M F R lo m lc D w1 hg h1; rw [hE] at cW)
              | (go_at_call 9; with_reducible refine cF.mono ?_; rintro e w2 ⟨rfl, rfl⟩)
              | (go_at_call 10; with_reducible refine cW.mono ?_; rintro e w3 ⟨ao, na, ca, bo, nb, cb, rfl, oa, om, hne, hb3⟩; have hL3 := hL1.below hb3; obtain ⟨d0, d1, d2⟩ := And.intro hL3.c0 (And.intro hL3.c1 hL3.c2); have cR := wright_any M F R (N : Int) w3 hg rg; rw [h3] at cR)
              | (go_at_call 13; with_reducible refine cR.mono ?_; rintro e w4 ⟨rfl, hb4⟩))
            go_ret
            exact ⟨rfl, next (next (next hb hb1) hb3) hb4⟩
          | true =>
            have h4 : rightB ((n / 64 : Nat) : Int) D m = false := by
              rw [h3, hE] at hB
              simpa [h1, h2] using hB
            clear hB h1 h2
            generalize n / 64 = N at *
            go_enter Try.func6, Try.ntmps6
            go_wp2_with (first
              | (go_at_call 8; with_reducible refine cS.mono ?_; rintro e w1 ⟨rfl, hb1⟩; have h1 := h.below (next hb hb1); have hL1 := hL.below hb1; obtain ⟨c0, c1, c2⟩ := And.intro hL1.c0 (And.intro hL1.c1 hL1.c2); have cF := few_any lo m lc D w1 h1; rw [hf] at cF; have cW := write_any M F R lo m lc D w1 hg h1; rw [hE] at cW)
              | (go_at_call 9; with_reducible refine cF.mono ?_; rintro e w2 ⟨rfl, rfl⟩)
              | (go_at_call 10; with_reducible refine cW.mono ?_; rintro e w3 ⟨ao, na, ca, bo, nb, cb, rfl, oa, om, hne, hb3⟩; have hL3 := hL1.below hb3; obtain ⟨d0, d1, d2⟩ := And.intro hL3.c0 (And.intro hL3.c1 hL3.c2); have cR := wright_any M F R (N : Int) w3 hg rg; rw [h3] at cR)
              | (go_at_call 13; with_reducible refine cR.mono ?_; rintro e w4 ⟨rfl, hb4⟩; have cK := right_any (N : Int) lo m lc D w4 ((h1.below hb3).below hb4); rw [h4] at cK)
              | (go_at_call 32; with_reducible refine cK.mono ?_; rintro e w5 ⟨rfl, hb5⟩))
            go_ret
            exact ⟨rfl, next (next (next (next hb hb1) hb3) hb4) hb5⟩
        · have hE0' : (E != 0) = true := by simpa using hE0
          clear hB h1 h2
          generalize n / 64 = N at *
          go_enter Try.func6, Try.ntmps6
          go_wp2_with (first
            | (go_at_call 8; with_reducible refine cS.mono ?_; rintro e w1 ⟨rfl, hb1⟩; have h1 := h.below (next hb hb1); have hL1 := hL.below hb1; obtain ⟨c0, c1, c2⟩ := And.intro hL1.c0 (And.intro hL1.c1 hL1.c2); have cF := few_any lo m lc D w1 h1; rw [hf] at cF; have cW := write_any M F R lo m lc D w1 hg h1; rw [hE] at cW)
            | (go_at_call 9; with_reducible refine cF.mono ?_; rintro e w2 ⟨rfl, rfl⟩)
            | (go_at_call 10; with_reducible refine cW.mono ?_; rintro e w3 ⟨ao, na, ca, bo, nb, cb, rfl, oa, om, hne, hb3⟩; have hL3 := hL1.below hb3; obtain ⟨d0, d1, d2⟩ := And.intro hL3.c0 (And.intro hL3.c1 hL3.c2); have cR := wright_any M F R (N : Int) w3 hg rg))
          go_ret
          exact ⟨rfl, next (next hb hb1) hb3⟩
      · have h2' : ((n : Int) % 64 != 0) = true := by simp; omega
        clear hB h1 h2
        generalize n / 64 = N at *
        go_enter Try.func6, Try.ntmps6
        go_wp2_with (first
          | (go_at_call 8; with_reducible refine cS.mono ?_; rintro e w1 ⟨rfl, hb1⟩; have h1 := h.below (next hb hb1); have hL1 := hL.below hb1; obtain ⟨c0, c1, c2⟩ := And.intro hL1.c0 (And.intro hL1.c1 hL1.c2); have cF := few_any lo m lc D w1 h1; rw [hf] at cF)
          | (go_at_call 9; with_reducible refine cF.mono ?_; rintro e w2 ⟨rfl, rfl⟩))
        go_ret
        exact ⟨rfl, next hb hb1⟩
    · have h1' : (8192 : Int) < (n : Int) := by omega
      clear hB h1
      generalize n / 64 = N at *
      go_enter Try.func6, Try.ntmps6
      go_wp2_with (first
        | (go_at_call 8; with_reducible refine cS.mono ?_; rintro e w1 ⟨rfl, hb1⟩; have h1 := h.below (next hb hb1); have hL1 := hL.below hb1; obtain ⟨c0, c1, c2⟩ := And.intro hL1.c0 (And.intro hL1.c1 hL1.c2); have cF := few_any lo m lc D w1 h1; rw [hf] at cF)
        | (go_at_call 9; with_reducible refine cF.mono ?_; rintro e w2 ⟨rfl, rfl⟩))
      go_ret
      exact ⟨rfl, next hb hb1⟩

/-- Nothing but block g has turned. -/
theorem cell_far {g : Nat} {w w' : World} (ho : Off (fun j => j = g) w w') {b i : Nat} {v : Value} (h : w.cell? ⟨b, i, none⟩ = some v) (hb : b < w.heap.size) (hn : b ≠ g) : w'.cell? ⟨b, i, none⟩ = some v := (World.cell?_of_block (a := ⟨b, i, none⟩) (ho.block b hb hn)).trans h
theorem drop_take_splice {α : Type} {zs ys : List α} {o i m : Nat} (h : o + ys.length ≤ zs.length) (hd : i + m ≤ o ∨ o + ys.length ≤ i) : ((splice zs o ys).drop i).take m = (zs.drop i).take m := by
  unfold splice
  rcases hd with hd | hd
  · rw [List.drop_append_of_le_length (by simp; omega), List.take_append_of_le_length (by simp; omega), List.drop_take, List.take_take, Nat.min_eq_left (by omega)]
  · rw [← List.append_assoc, List.drop_append, List.length_append, List.length_take, Nat.min_eq_left (by omega), List.drop_eq_nil_of_le (by simp; omega), List.nil_append, List.drop_drop]
    congr 2
    omega
theorem drop_take_here {α : Type} {zs ys : List α} {o : Nat} (h : o + ys.length ≤ zs.length) : ((splice zs o ys).drop o).take ys.length = ys := by
  unfold splice
  rw [List.drop_append, List.length_take, Nat.min_eq_left (by omega), List.drop_eq_nil_of_le (by simp; omega), List.nil_append, Nat.sub_self, List.drop_zero, List.take_append_of_le_length (Nat.le_refl _), List.take_of_length_le (Nat.le_refl _)]
/-- What is read of the image with records and mark, and of the one whose mark is 0. -/
theorem back_read {n N mk fi m : Nat} {R : Int} {D : Nat → ChD} {z rs z1 z2 mb : List Int} (hz : z.length = n ∧ Bytes z ∧ Bytes (recsL (saysN D m))) (hR : RightG ⟨mk, fi, R⟩ (N : Int) ∧ rightL (N : Int) (saysN D m) = true ∧ writeE ⟨mk, fi, R⟩ (saysN D m) = 0 ∧ (∀ c ∈ saysN D m, Bytes c.2) ∧ (recsL (saysN D m)).length = 128 * m ∧ n % 64 = 0 ∧ z.length = n)
    (hrs : rs = recsL (saysN D m)) (hz1 : z1 = over z (64 * fi) rs (128 * m)) (hmb : mb = markL (recsL (saysN D m))) (hz2 : z2 = over z1 (64 * mk) mb 64) (hrsl : rs.length = 128 * m) (k1 : 64 * fi + 128 * m ≤ n) (k2 : 64 * mk + 64 ≤ n) (k3 : 64 * mk + 64 ≤ 64 * fi ∨ 64 * fi + 128 * m ≤ 64 * mk) (hN : n / 64 = N) (hn9 : n ≤ 8192) :
    readE ⟨mk, fi, R⟩ z2 = 0 ∧ readL ⟨mk, fi, R⟩ z2 = saysN D m ∧ Bytes z2 ∧ z2.length = n ∧ readE ⟨mk, fi, R⟩ (over z2 (64 * mk) (List.replicate 64 0) 64) = 0 ∧ readL ⟨mk, fi, R⟩ (over z2 (64 * mk) (List.replicate 64 0) 64) = [] ∧ Bytes (over z2 (64 * mk) (List.replicate 64 0) 64) := by
  obtain ⟨hl, hb, hbr⟩ := hz
  obtain ⟨r1, r2, r3, r4, r5, r6, _⟩ := hR
  have hmbl : mb.length = 64 := by rw [hmb]; exact markL_length _
  have e1 : z1 = splice z (64 * fi) rs := by rw [hz1]; unfold over; rw [List.take_of_length_le (by omega)]
  have l1 : z1.length = n := by rw [e1, splice_length (by omega), hl]
  have e2 : z2 = splice z1 (64 * mk) mb := by rw [hz2]; unfold over; rw [List.take_of_length_le (by omega)]
  have l2 : z2.length = n := by rw [e2, splice_length (by omega), l1]
  have b1 : Bytes z1 := by rw [e1]; exact splice_bytes hb (by rw [hrs]; exact hbr)
  have b2 : Bytes z2 := by rw [e2]; exact splice_bytes b1 (by rw [hmb]; exact markL_bytes _)
  have hm : mkAt ⟨mk, fi, R⟩ z2 = markL (recsL (saysN D m)) := by
    show (z2.drop ((mk : Int).toNat * 64)).take 64 = _
    rw [Int.toNat_natCast, Nat.mul_comm mk 64, e2, ← hmb]
    have := drop_take_here (zs := z1) (ys := mb) (o := 64 * mk) (by omega)
    rwa [hmbl] at this
  have hr : (z2.drop (((⟨mk, fi, R⟩ : Lg).first).toNat * 64)).take ((saysN D m).length * 128) = recsL (saysN D m) := by
    show (z2.drop ((fi : Int).toNat * 64)).take _ = _
    rw [Int.toNat_natCast, Nat.mul_comm fi 64, saysN_length, Nat.mul_comm m 128, e2, drop_take_splice (by omega) (by omega), e1, ← hrs]
    have := drop_take_here (zs := z) (ys := rs) (o := 64 * fi) (by omega)
    rwa [hrsl] at this
  have hN4 : N ≤ 4096 := by omega
  obtain ⟨p1, p2⟩ := read_written (g := ⟨mk, fi, R⟩) (n := N) (l := saysN D m) (z := z2) (by omega) hN4 r1 r3 r2 r4 hm hr
  have e3 : over z2 (64 * mk) (List.replicate 64 0) 64 = splice z2 (64 * mk) (List.replicate 64 0) := by unfold over; rw [List.take_of_length_le (by simp)]
  have l3 : (over z2 (64 * mk) (List.replicate 64 0) 64).length = n := by rw [e3, splice_length (by simp; omega), l2]
  obtain ⟨q1, q2⟩ := read_zeros (g := ⟨mk, fi, R⟩) (n := N) (z := over z2 (64 * mk) (List.replicate 64 0) 64) (by omega) hN4 r1 (by
    show ((over z2 (64 * mk) (List.replicate 64 0) 64).drop ((mk : Int).toNat * 64)).take 64 = _
    rw [Int.toNat_natCast, Nat.mul_comm mk 64, e3]
    have := drop_take_here (zs := z2) (ys := List.replicate 64 (0 : Int)) (o := 64 * mk) (by simp; omega)
    rwa [List.length_replicate] at this)
  exact ⟨p1, p2, b2, l2, q1, q2, by rw [e3]; exact splice_bytes b2 (fun x hx => by rw [List.mem_replicate] at hx; omega)⟩
set_option maxHeartbeats 6400000 in
theorem walBack_walk (w : World) (a0 : Option Addr) (n cap : Nat) (z : List Int) (s0 : Sl .u8 w a0 n cap z) (f0 : ∀ x ∈ z, (Lit.int .u8 x).wf = true) (c0 : cap * 1 ≤ 140737488351232) (M F R : Int) (hg : (Lg.mk M F R).Ok) (lo : Option Addr) (m lc : Nat) (hv : lo = none → lc = 0 ∧ m = 0) (D : Nat → ChD) (h : Chs w lo m D) :
    Calls Try.prog 6 #[.slice a0 n cap, .agg #[.int .i64 M, .int .i64 F, .int .i64 R], .slice lo m lc] w fun e w' => e = .returned (.bool true) ∧ Below w.heap.size w w' := by
  have hroom := s0.room
  have hlen := s0.len
  cases hB : backOk n m D ⟨M, F, R⟩ with
  | false => exact back_off w a0 n cap (by omega) M F R hg lo m lc D h hB
  | true =>
    have hb := (Below.refl w.heap.size w).alloc (Nat.le_refl _) (.cells #[.int .i64 M, .int .i64 F, .int .i64 R] 23)
    have hL := logAt_new w M F R
    have hm9 := h.fit
    have cS := wsmall_any (w.alloc (.cells #[.int .i64 M, .int .i64 F, .int .i64 R] 23))
    have hby : Bytes z := bytes_wf f0
    unfold backOk at hB
    simp only [Bool.and_eq_true, decide_eq_true_eq] at hB
    obtain ⟨hf, h1, h2, hE, h3, h4⟩ := hB
    have eq : (n : Int) / 64 = ((n / 64 : Nat) : Int) := by omega
    have rg : Rg ((n / 64 : Nat) : Int) := by unfold Rg; omega
    have h1' : ¬ ((8192 : Int) < (n : Int)) := by omega
    have h2' : ((n : Int) % 64 != 0) = false := by simp; omega
    have hG := rightG_iff.1 h3
    have hl4 : rightL ((n / 64 : Nat) : Int) (saysN D m) = true := by rw [← rightB_eq]; exact h4
    have g1 := hG.m0
    have g2 := hG.m1
    have g3 := hG.f0
    have g4 := hG.f1
    have g5 := hG.ap
    simp only at g1 g2 g3 g4 g5
    obtain ⟨w1, w2, w3, w4⟩ := writeE_zero hE
    rw [saysN_length] at w4
    simp only at w4
    have eA : writeA ⟨M, F, R⟩ (saysN D m) = recsL (saysN D m) := by unfold writeA; rw [if_pos hE]
    have eM : writeM ⟨M, F, R⟩ (saysN D m) = markL (recsL (saysN D m)) := by unfold writeM; rw [if_pos hE]
    have hrl : (recsL (saysN D m)).length = 128 * m := by rw [recsL_length (fun c hc => (rightL_mem w2 hc).2.2), saysN_length]
    have hcb : ∀ c ∈ saysN D m, Bytes c.2 := fun c hc => by
      unfold saysN at hc
      rw [List.mem_map] at hc
      obtain ⟨i, hi, rfl⟩ := hc
      exact (h.ok i (by simpa using hi)).by_
    have hbR := recsL_bytes hcb
    obtain ⟨mk, rfl⟩ : ∃ mk : Nat, M = mk := ⟨M.toNat, by omega⟩
    obtain ⟨fi, rfl⟩ : ∃ fi : Nat, F = fi := ⟨F.toNat, by omega⟩
    have k1 : 64 * fi + 128 * m ≤ n := by omega
    have k2 : 64 * mk + 64 ≤ n := by omega
    have k3 : 64 * mk + 64 ≤ 64 * fi ∨ 64 * fi + 128 * m ≤ 64 * mk := by omega
    have hn9 : n ≤ 8192 := h1
    have HR := hid (And.intro hG (And.intro hl4 (And.intro hE (And.intro hcb (And.intro hrl (And.intro h2 hlen))))))
    have HRM : Hid (writeA ⟨mk, fi, R⟩ (saysN D m) = recsL (saysN D m) ∧ writeM ⟨mk, fi, R⟩ (saysN D m) = markL (recsL (saysN D m))) := ⟨eA, eM⟩
    have HLN : Hid (z.length = n ∧ Bytes z ∧ Bytes (recsL (saysN D m))) := ⟨hlen, hby, hbR⟩
    obtain ⟨rs, hrs⟩ : ∃ rs, rs = recsL (saysN D m) := ⟨_, rfl⟩
    have HRS := hid hrs
    have hrsl : rs.length = 128 * m := by rw [hrs]; exact hrl
    generalize hN : n / 64 = N at *
    have HN := hid hN
    clear hG hl4 w1 w2 w3 w4 eA eM hrl hcb hbR g1 g2 g3 g4 g5 h1 h2 hby hlen hN
    have n64 : 0 + n ≤ 140737488355328 := by omega
    go_enter Try.func6, Try.ntmps6
    go_wp2_with (first
      | (go_at_call 8; with_reducible refine cS.mono ?_; rintro e w1 ⟨rfl, hb1⟩; have h1 := h.below (next hb hb1); have hL1 := hL.below hb1; obtain ⟨c0, c1, c2⟩ := And.intro hL1.c0 (And.intro hL1.c1 hL1.c2); have cF := few_any lo m lc D w1 h1; rw [hf] at cF; have cW := write_any mk fi R lo m lc D w1 hg h1; rw [hE] at cW)
      | (go_at_call 9; with_reducible refine cF.mono ?_; rintro e w2 ⟨rfl, rfl⟩)
      | (go_at_call 10; with_reducible refine cW.mono ?_; rintro e w3 ⟨ao, na, ca, bo, nb, cb, rfl, oa, om, hne, hb3⟩; have hL3 := hL1.below hb3; obtain ⟨d0, d1, d2⟩ := And.intro hL3.c0 (And.intro hL3.c1 hL3.c2); have cR := wright_any mk fi R (N : Int) w3 hg rg; rw [h3] at cR; rw [HRM.out.1] at oa; rw [HRM.out.2] at om; obtain rfl : na = 128 * m := (by rw [← oa.len, ← HRS.out]; exact hrsl); obtain rfl : nb = 64 := (by rw [← om.len, markL_length]))
      | (go_at_call 13; with_reducible refine cR.mono ?_; rintro e w4 ⟨rfl, hb4⟩; have cK := right_any (N : Int) lo m lc D w4 ((h1.below hb3).below hb4); rw [h4] at cK)
      | (go_at_call 32; with_reducible refine cK.mono ?_; rintro e w5 ⟨rfl, hb5⟩; have hb15 := next (next (next (next hb hb1) hb3) hb4) hb5; have hb35 := next hb4 hb5; have hL5 := hL3.below hb35; obtain ⟨e0, e1, e2⟩ := And.intro hL5.c0 (And.intro hL5.c1 hL5.c2); have hb50 : Below w5.heap.size w5 (w5.alloc (.cells #[] 5)) := (Below.refl _ _).alloc (Nat.le_refl _) _; have hmade : (w5.alloc (.cells #[] 5)).ownsRow w5.heap.size 5 1 (.slice (some ⟨w5.heap.size, 0, none⟩) 0 0) 0 (([] : List Int).map (Value.int .u8)) := World.ownsRow_made w5 #[] 0 (Nat.le_refl _) (Nat.zero_le _) rfl; have sx := (s0.below hb15).below hb50; have hs0 : w5.heap.size ≤ (w5.alloc (.cells #[] 5)).heap.size := (by simp))
      | (at_builtin; refine append_sl rfl (.tmp 74) (.tmp 75) rfl w5.heap.size _ 0 [] rfl hmade _ n _ z rfl sx n64 hs0 ?_; intro bo1 cb1 w6 hcp hgr1 _; have hb6 : Below w5.heap.size w5 w6 := hb50.grown hgr1 hs0 (fun b hb' => (hmade.lt b hb').1)))
    rw [Nat.zero_add, List.nil_append] at hcp
    obtain ⟨gb, cb2, e⟩ := own_shape hcp.row (by omega)
    simp only [Value.slice.injEq] at e
    obtain ⟨rfl, _, rfl⟩ := e
    have hgb : w5.heap.size ≤ gb := (own_at hcp rfl).1
    have hgl : gb < w6.heap.size := (own_at hcp rfl).2
    have oa6 := (oa.below hb35).below hb6
    have om6 := (om.below hb35).below hb6
    have hL6 := hL5.below hb6
    have h6 := h.below (next hb15 hb6)
    have HB6 := hid (next hb15 hb6)
    have HH6 := hid h6
    have hs15 := hb15.size
    have hs3 := (next hb1 hb3).size
    have hs35 := hb35.size
    have hs50 := hb6.size
    have HGA : Hid (∀ g, ao = some ⟨g, 0, none⟩ → g < w5.heap.size) := fun g hg => by have := (own_at (oa.below hb35) hg).2; exact this
    have HGM : Hid (∀ g, bo = some ⟨g, 0, none⟩ → g < w5.heap.size) := fun g hg => by have := (own_at (om.below hb35) hg).2; exact this
    have HOA := hid oa6
    have HOM := hid om6
    have HL6 := hid hL6
    have hlw : w.heap.size < w5.heap.size := hL5.lt
    have HCP := hid hcp
    have hrsl2 : Hid (rs = recsL (saysN D m)) := HRS.out
    have hcb9 := hcp.cap_le
    clear oa6 om6 hL6 hL5 e0 e1 e2 d0 d1 d2 c0 c1 c2 hL3 hL1 oa om hmade sx hs0 hb50 hcp hgr1 h6 hb15 hb35 hs15 hs35 hs3 hb1 hb3 hb4 hb5 hb6 h1 cF cW cR cK cS hb hL s0 hroom hne hrs
    go_loopw [14] (fun t wr => ∃ k : Nat, k ≤ 128 * m ∧ t = .int .i64 k ∧ Own .u8 5 w5.heap.size wr (some ⟨gb, 0, none⟩) n cb1 (over z (64 * fi) rs k) ∧ Off (fun j => j = gb) w6 wr) (fun t _ => 128 * m - (RowKit.intOf t).toNat)
    case atStart => exact ⟨0, Nat.zero_le _, rfl, (by rw [over_zero _ _ _ (by rw [HLN.out.1]; omega)]; exact HCP.out), Off.refl _ _⟩
    case round =>
      obtain ⟨k, hk, rfl, ho, hoff⟩ := hrel
      by_cases hlt : k < 128 * m
      · have hki : (k : Int) < ((128 * m : Nat) : Int) := by omega
        have hkk : (k : Int) < 128 * (m : Int) := by omega
        have hk0 : (0 : Int) ≤ (k : Int) := by omega
        obtain ⟨ga, cca, e⟩ := own_shape HOA.out.row (by omega)
        simp only [Value.slice.injEq] at e
        obtain ⟨rfl, _, rfl⟩ := e
        have hgaL : ga < w5.heap.size ∧ ga < w6.heap.size := ⟨HGA.out ga rfl, Nat.lt_of_lt_of_le (HGA.out ga rfl) hs50⟩
        obtain ⟨zv, hzv⟩ : ∃ zv, rs.getD k 0 = zv := ⟨_, rfl⟩
        have cR : wr.cell? ⟨ga, k, none⟩ = some (.int .u8 zv) := cell_far hoff (by rw [← hzv, HRS.out]; exact HOA.out.at k hlt rfl) hgaL.2 (by omega)
        have cL : wr.cell? ⟨w.heap.size, 1, none⟩ = some (.int .i64 (fi : Int)) := cell_far hoff HL6.out.c1 (by omega) (by omega)
        have hst := ho.set (64 * fi + k) zv
        rw [← hzv, over_succ (by rw [hrsl]; exact hlt) (by rw [hrsl, HLN.out.1]; omega), hzv] at hst
        have hc := ho.at (64 * fi + k) (by omega) rfl
        obtain ⟨cur, hcur, _⟩ := ho.block
        have hfz : wr.frozen? ⟨gb, 64 * fi + k, none⟩ = false := frozen_of_row wr gb _ _ _ hcur
        have nl : (⟨gb, 64 * fi + k, none⟩ : Addr).block ≠ (⟨w.heap.size, 1, none⟩ : Addr).block := by simp only; omega
        have nr : (⟨gb, 64 * fi + k, none⟩ : Addr).block ≠ (⟨ga, k, none⟩ : Addr).block := by simp only; omega
        have b0 : (0 : Int) ≤ 64 * (fi : Int) + (k : Int) := by omega
        have b1 : 64 * (fi : Int) + (k : Int) < (n : Int) := by omega
        have wr1 : IntKind.i64.wrap (64 * (fi : Int)) = 64 * (fi : Int) := wrap64_small (by omega) (by omega)
        have wr2 : IntKind.i64.wrap (64 * (fi : Int) + (k : Int)) = 64 * (fi : Int) + (k : Int) := wrap64_small (by omega) (by omega)
        have wr3 : (64 * (fi : Int) + (k : Int)).toNat = 64 * fi + k := by omega
        have HST := hid hst
        have HOF := hid (hoff.setCell ⟨gb, 64 * fi + k, none⟩ (.int .u8 zv) rfl)
        generalize (over z (64 * fi) rs k).getD (64 * fi + k) 0 = yv at *
        clear hst hoff ho hcur hzv
        go_wp2_with fail
        refine wp_region_held_drew (S := fun w' => w'.cell? ⟨w.heap.size, 1, none⟩ = some (.int .i64 (fi : Int)) ∧ w'.cell? ⟨ga, k, none⟩ = some (.int .u8 zv)) (by kernel_rfl) ⟨cL, cR⟩ (fun hH => ?_)
        refine wpAnyH_take (i := 0) (v := ?_) (List.getElem?_toArray.trans rfl) (by kernel_rfl) (by kernel_rfl) (by kernel_rfl) (fun _ _ _ h => h) (Or.inl ⟨by rfl, ?_⟩) (by assumption) ?_
        rotate_left
        · (intro w hSw; obtain ⟨h1, h2⟩ := hSw; go_simp; try (with_reducible rfl))
        simp only [Act.put, List.setIfInBounds_toArray, List.set_cons_zero, List.set_cons_succ]
        refine wpAnyH_take (i := 1) (v := ?_) (List.getElem?_toArray.trans rfl) (by kernel_rfl) (by kernel_rfl) (by kernel_rfl) (fun _ _ _ h => h) (Or.inl ⟨by rfl, ?_⟩) (by assumption) ?_
        rotate_left
        · (intro w hSw; obtain ⟨h1, h2⟩ := hSw; go_simp; try (with_reducible rfl))
        simp only [Act.put, List.setIfInBounds_toArray, List.set_cons_zero, List.set_cons_succ]
        refine wpAnyH_take (i := 2) (v := ?_) (List.getElem?_toArray.trans rfl) (by kernel_rfl) (by kernel_rfl) (by kernel_rfl) (fun _ _ _ h => h) (Or.inl ⟨by rfl, ?_⟩) (by assumption) ?_
        rotate_left
        · (intro w hSw; obtain ⟨h1, h2⟩ := hSw; go_simp; try (with_reducible rfl))
        simp only [Act.put, List.setIfInBounds_toArray, List.set_cons_zero, List.set_cons_succ]
        refine wpAnyH_take (i := 3) (v := ?_) (List.getElem?_toArray.trans rfl) (by kernel_rfl) (by kernel_rfl) (by kernel_rfl) (fun _ _ _ h => h) (Or.inl ⟨by rfl, ?_⟩) (by assumption) ?_
        rotate_left
        · (intro w hSw; obtain ⟨h1, h2⟩ := hSw; go_simp; try (with_reducible rfl))
        simp only [Act.put, List.setIfInBounds_toArray, List.set_cons_zero, List.set_cons_succ]
        refine wpAnyH_take (i := 4) (v := ?_) (List.getElem?_toArray.trans rfl) (by kernel_rfl) (by kernel_rfl) (by kernel_rfl) (fun _ _ _ h => h) (Or.inl ⟨by rfl, ?_⟩) (by assumption) ?_
        rotate_left
        · (intro w hSw; obtain ⟨h1, h2⟩ := hSw; go_simp; try (with_reducible rfl))
        simp only [Act.put, List.setIfInBounds_toArray, List.set_cons_zero, List.set_cons_succ]
        refine wpAnyH_take (i := 5) (v := ?_) (List.getElem?_toArray.trans rfl) (by kernel_rfl) (by kernel_rfl) (by kernel_rfl) (fun _ _ _ h => h) (Or.inl ⟨by rfl, ?_⟩) (by assumption) ?_
        rotate_left
        · (intro w hSw; obtain ⟨h1, h2⟩ := hSw; go_simp; try (with_reducible rfl))
        simp only [Act.put, List.setIfInBounds_toArray, List.set_cons_zero, List.set_cons_succ]
        refine wpAnyH_take (i := 6) (v := ?_) (List.getElem?_toArray.trans rfl) (by kernel_rfl) (by kernel_rfl) (by kernel_rfl) (fun _ _ _ h => h) (Or.inl ⟨by rfl, ?_⟩) (by assumption) ?_
        rotate_left
        · (intro w hSw; obtain ⟨h1, h2⟩ := hSw; go_simp; try (with_reducible rfl))
        simp only [Act.put, List.setIfInBounds_toArray, List.set_cons_zero, List.set_cons_succ]
        refine wpAnyH_take (i := 7) (v := ?_) (List.getElem?_toArray.trans rfl) (by kernel_rfl) (by kernel_rfl) (by kernel_rfl) (fun _ _ _ h => h) (Or.inl ⟨by rfl, ?_⟩) (by assumption) ?_
        rotate_left
        · (intro w hSw; obtain ⟨h1, h2⟩ := hSw; go_simp; try (with_reducible rfl))
        simp only [Act.put, List.setIfInBounds_toArray, List.set_cons_zero, List.set_cons_succ]
        refine wpAnyH_take (i := 8) (v := ?_) (List.getElem?_toArray.trans rfl) (by kernel_rfl) (by kernel_rfl) (by kernel_rfl) (fun _ _ _ h => h) (Or.inl ⟨by rfl, ?_⟩) (by assumption) ?_
        rotate_left
        · (intro w hSw; obtain ⟨h1, h2⟩ := hSw; go_simp; try (with_reducible rfl))
        simp only [Act.put, List.setIfInBounds_toArray, List.set_cons_zero, List.set_cons_succ]
        refine wpAnyH_take (i := 9) (v := ?_) (List.getElem?_toArray.trans rfl) (by kernel_rfl) (by kernel_rfl) (by kernel_rfl) (fun _ _ _ h => h) (Or.inl ⟨by rfl, ?_⟩) (by assumption) ?_
        rotate_left
        · (intro w hSw; obtain ⟨h1, h2⟩ := hSw; go_simp; try (with_reducible rfl))
        simp only [Act.put, List.setIfInBounds_toArray, List.set_cons_zero, List.set_cons_succ]
        refine wpAnyH_take (i := 10) (v := ?_) (List.getElem?_toArray.trans rfl) (by kernel_rfl) (by kernel_rfl) (by kernel_rfl) (fun _ _ _ h => h) (Or.inl ⟨by rfl, ?_⟩) (by assumption) ?_
        rotate_left
        · (intro w hSw; obtain ⟨h1, h2⟩ := hSw; go_simp; try (with_reducible rfl))
        simp only [Act.put, List.setIfInBounds_toArray, List.set_cons_zero, List.set_cons_succ]
        refine wpAnyH_ready (rs := [11]) (by kernel_rfl) (by simp) ?_
        refine AllReadyH.cons (List.getElem?_toArray.trans rfl) (fun K3 hK3 => ?_) AllReadyH.nil
        go_simp
        refine hK3.out _ _ ⟨(World.cell?_setCell_far _ _ _ _ nl).trans cL, (World.cell?_setCell_far _ _ _ _ nr).trans cR⟩ (fun hHelds => ?_)
        clear hK3 K3
        refine wpAnyH_done (by kernel_rfl) ?_ _
        go_wp2
        go_roundw
        case rel => exact ⟨k + 1, by omega, by go_num, HST.out.below (below_drew (Below.refl _ _)), HOF.out.trans (F' := fun _ => False) ⟨rfl, rfl, rfl, Nat.le_refl _, fun _ _ _ => rfl⟩ (fun _ h => h.elim)⟩
        case measure => simp [RowKit.intOf]; omega
      · have hk9 : k = 128 * m := by omega
        obtain ⟨gm, ccm, e⟩ := own_shape HOM.out.row (by omega)
        simp only [Value.slice.injEq] at e
        obtain ⟨rfl, _, rfl⟩ := e
        have hgmL : gm < w5.heap.size ∧ gm < w6.heap.size := ⟨HGM.out gm rfl, Nat.lt_of_lt_of_le (HGM.out gm rfl) hs50⟩
        obtain ⟨z1, hz1⟩ : ∃ z1, z1 = over z (64 * fi) rs (128 * m) := ⟨_, rfl⟩
        rw [hk9, ← hz1] at ho
        have hz1l : z1.length = n := by rw [hz1, over_length (by rw [hrsl, HLN.out.1]; omega) (by omega), HLN.out.1]
        obtain ⟨mb, hmb⟩ : ∃ mb, mb = markL (recsL (saysN D m)) := ⟨_, rfl⟩
        have hmbl : mb.length = 64 := by rw [hmb]; exact markL_length _
        have HZ1 := hid (And.intro hz1 hmb)
        have HO1 := hid ho
        have HF1 := hid hoff
        clear hz1 hmb ho hoff hk9 hk
        have hki : ¬ ((k : Int) < ((128 * m : Nat) : Int)) := by omega
        have hkk : ¬ ((k : Int) < 128 * (m : Int)) := by omega
        go_wp2
        go_loopw [15] (fun t wx => ∃ k : Nat, k ≤ 64 ∧ t = .int .i64 k ∧ Own .u8 5 w5.heap.size wx (some ⟨gb, 0, none⟩) n cb1 (over z1 (64 * mk) mb k) ∧ Off (fun j => j = gb) w6 wx) (fun t _ => 64 - (RowKit.intOf t).toNat)
        case atStart => exact ⟨0, Nat.zero_le _, rfl, (by rw [over_zero _ _ _ (by omega)]; exact HO1.out), HF1.out⟩
        case round =>
          obtain ⟨k, hk, rfl, ho, hoff⟩ := hrel
          by_cases hlt : k < 64
          · have hki : (k : Int) < 64 := by omega
            have hk0 : (0 : Int) ≤ (k : Int) := by omega
            obtain ⟨zv, hzv⟩ : ∃ zv, mb.getD k 0 = zv := ⟨_, rfl⟩
            have cR : wr.cell? ⟨gm, k, none⟩ = some (.int .u8 zv) := cell_far hoff (by rw [← hzv, HZ1.out.2]; exact HOM.out.at k hlt rfl) hgmL.2 (by omega)
            have cL : wr.cell? ⟨w.heap.size, 0, none⟩ = some (.int .i64 (mk : Int)) := cell_far hoff HL6.out.c0 (by omega) (by omega)
            have hst := ho.set (64 * mk + k) zv
            rw [← hzv, over_succ (by rw [hmbl]; exact hlt) (by rw [hmbl, hz1l]; omega), hzv] at hst
            have hc := ho.at (64 * mk + k) (by omega) rfl
            obtain ⟨cur, hcur, _⟩ := ho.block
            have hfz : wr.frozen? ⟨gb, 64 * mk + k, none⟩ = false := frozen_of_row wr gb _ _ _ hcur
            have nl : (⟨gb, 64 * mk + k, none⟩ : Addr).block ≠ (⟨w.heap.size, 0, none⟩ : Addr).block := by simp only; omega
            have nr : (⟨gb, 64 * mk + k, none⟩ : Addr).block ≠ (⟨gm, k, none⟩ : Addr).block := by simp only; omega
            have b0 : (0 : Int) ≤ 64 * (mk : Int) + (k : Int) := by omega
            have b1 : 64 * (mk : Int) + (k : Int) < (n : Int) := by omega
            have wr1 : IntKind.i64.wrap (64 * (mk : Int)) = 64 * (mk : Int) := wrap64_small (by omega) (by omega)
            have wr2 : IntKind.i64.wrap (64 * (mk : Int) + (k : Int)) = 64 * (mk : Int) + (k : Int) := wrap64_small (by omega) (by omega)
            have wr3 : (64 * (mk : Int) + (k : Int)).toNat = 64 * mk + k := by omega
            have HST := hid hst
            have HOF := hid (hoff.setCell ⟨gb, 64 * mk + k, none⟩ (.int .u8 zv) rfl)
            generalize (over z1 (64 * mk) mb k).getD (64 * mk + k) 0 = yv at *
            clear hst hoff ho hcur hzv
            go_wp2_with fail
            refine wp_region_held_drew (S := fun w' => w'.cell? ⟨w.heap.size, 0, none⟩ = some (.int .i64 (mk : Int)) ∧ w'.cell? ⟨gm, k, none⟩ = some (.int .u8 zv)) (by kernel_rfl) ⟨cL, cR⟩ (fun hH => ?_)
            refine wpAnyH_take (i := 0) (v := ?_) (List.getElem?_toArray.trans rfl) (by kernel_rfl) (by kernel_rfl) (by kernel_rfl) (fun _ _ _ h => h) (Or.inl ⟨by rfl, ?_⟩) (by assumption) ?_
            rotate_left
            · (intro w hSw; obtain ⟨h1, h2⟩ := hSw; go_simp; try (with_reducible rfl))
            simp only [Act.put, List.setIfInBounds_toArray, List.set_cons_zero, List.set_cons_succ]
            refine wpAnyH_take (i := 1) (v := ?_) (List.getElem?_toArray.trans rfl) (by kernel_rfl) (by kernel_rfl) (by kernel_rfl) (fun _ _ _ h => h) (Or.inl ⟨by rfl, ?_⟩) (by assumption) ?_
            rotate_left
            · (intro w hSw; obtain ⟨h1, h2⟩ := hSw; go_simp; try (with_reducible rfl))
            simp only [Act.put, List.setIfInBounds_toArray, List.set_cons_zero, List.set_cons_succ]
            refine wpAnyH_take (i := 2) (v := ?_) (List.getElem?_toArray.trans rfl) (by kernel_rfl) (by kernel_rfl) (by kernel_rfl) (fun _ _ _ h => h) (Or.inl ⟨by rfl, ?_⟩) (by assumption) ?_
            rotate_left
            · (intro w hSw; obtain ⟨h1, h2⟩ := hSw; go_simp; try (with_reducible rfl))
            simp only [Act.put, List.setIfInBounds_toArray, List.set_cons_zero, List.set_cons_succ]
            refine wpAnyH_take (i := 3) (v := ?_) (List.getElem?_toArray.trans rfl) (by kernel_rfl) (by kernel_rfl) (by kernel_rfl) (fun _ _ _ h => h) (Or.inl ⟨by rfl, ?_⟩) (by assumption) ?_
            rotate_left
            · (intro w hSw; obtain ⟨h1, h2⟩ := hSw; go_simp; try (with_reducible rfl))
            simp only [Act.put, List.setIfInBounds_toArray, List.set_cons_zero, List.set_cons_succ]
            refine wpAnyH_take (i := 4) (v := ?_) (List.getElem?_toArray.trans rfl) (by kernel_rfl) (by kernel_rfl) (by kernel_rfl) (fun _ _ _ h => h) (Or.inl ⟨by rfl, ?_⟩) (by assumption) ?_
            rotate_left
            · (intro w hSw; obtain ⟨h1, h2⟩ := hSw; go_simp; try (with_reducible rfl))
            simp only [Act.put, List.setIfInBounds_toArray, List.set_cons_zero, List.set_cons_succ]
            refine wpAnyH_take (i := 5) (v := ?_) (List.getElem?_toArray.trans rfl) (by kernel_rfl) (by kernel_rfl) (by kernel_rfl) (fun _ _ _ h => h) (Or.inl ⟨by rfl, ?_⟩) (by assumption) ?_
            rotate_left
            · (intro w hSw; obtain ⟨h1, h2⟩ := hSw; go_simp; try (with_reducible rfl))
            simp only [Act.put, List.setIfInBounds_toArray, List.set_cons_zero, List.set_cons_succ]
            refine wpAnyH_take (i := 6) (v := ?_) (List.getElem?_toArray.trans rfl) (by kernel_rfl) (by kernel_rfl) (by kernel_rfl) (fun _ _ _ h => h) (Or.inl ⟨by rfl, ?_⟩) (by assumption) ?_
            rotate_left
            · (intro w hSw; obtain ⟨h1, h2⟩ := hSw; go_simp; try (with_reducible rfl))
            simp only [Act.put, List.setIfInBounds_toArray, List.set_cons_zero, List.set_cons_succ]
            refine wpAnyH_take (i := 7) (v := ?_) (List.getElem?_toArray.trans rfl) (by kernel_rfl) (by kernel_rfl) (by kernel_rfl) (fun _ _ _ h => h) (Or.inl ⟨by rfl, ?_⟩) (by assumption) ?_
            rotate_left
            · (intro w hSw; obtain ⟨h1, h2⟩ := hSw; go_simp; try (with_reducible rfl))
            simp only [Act.put, List.setIfInBounds_toArray, List.set_cons_zero, List.set_cons_succ]
            refine wpAnyH_take (i := 8) (v := ?_) (List.getElem?_toArray.trans rfl) (by kernel_rfl) (by kernel_rfl) (by kernel_rfl) (fun _ _ _ h => h) (Or.inl ⟨by rfl, ?_⟩) (by assumption) ?_
            rotate_left
            · (intro w hSw; obtain ⟨h1, h2⟩ := hSw; go_simp; try (with_reducible rfl))
            simp only [Act.put, List.setIfInBounds_toArray, List.set_cons_zero, List.set_cons_succ]
            refine wpAnyH_take (i := 9) (v := ?_) (List.getElem?_toArray.trans rfl) (by kernel_rfl) (by kernel_rfl) (by kernel_rfl) (fun _ _ _ h => h) (Or.inl ⟨by rfl, ?_⟩) (by assumption) ?_
            rotate_left
            · (intro w hSw; obtain ⟨h1, h2⟩ := hSw; go_simp; try (with_reducible rfl))
            simp only [Act.put, List.setIfInBounds_toArray, List.set_cons_zero, List.set_cons_succ]
            refine wpAnyH_take (i := 10) (v := ?_) (List.getElem?_toArray.trans rfl) (by kernel_rfl) (by kernel_rfl) (by kernel_rfl) (fun _ _ _ h => h) (Or.inl ⟨by rfl, ?_⟩) (by assumption) ?_
            rotate_left
            · (intro w hSw; obtain ⟨h1, h2⟩ := hSw; go_simp; try (with_reducible rfl))
            simp only [Act.put, List.setIfInBounds_toArray, List.set_cons_zero, List.set_cons_succ]
            refine wpAnyH_ready (rs := [11]) (by kernel_rfl) (by simp) ?_
            refine AllReadyH.cons (List.getElem?_toArray.trans rfl) (fun K3 hK3 => ?_) AllReadyH.nil
            go_simp
            refine hK3.out _ _ ⟨(World.cell?_setCell_far _ _ _ _ nl).trans cL, (World.cell?_setCell_far _ _ _ _ nr).trans cR⟩ (fun hHelds => ?_)
            clear hK3 K3
            refine wpAnyH_done (by kernel_rfl) ?_ _
            go_wp2
            go_roundw
            case rel => exact ⟨k + 1, by omega, by go_num, HST.out.below (below_drew (Below.refl _ _)), HOF.out.trans (F' := fun _ => False) ⟨rfl, rfl, rfl, Nat.le_refl _, fun _ _ _ => rfl⟩ (fun _ h => h.elim)⟩
            case measure => simp [RowKit.intOf]; omega
          · obtain rfl : k = 64 := by omega
            have hLr : LogAt wr w.heap.size mk fi R := ⟨Nat.lt_of_lt_of_le HL6.out.lt hoff.size, cell_far hoff HL6.out.c0 HL6.out.lt (by omega), cell_far hoff HL6.out.c1 HL6.out.lt (by omega), cell_far hoff HL6.out.c2 HL6.out.lt (by omega)⟩
            obtain ⟨c0, c1, c2⟩ := And.intro hLr.c0 (And.intro hLr.c1 hLr.c2)
            obtain ⟨z2, hz2⟩ : ∃ z2, z2 = over z1 (64 * mk) mb 64 := ⟨_, rfl⟩
            rw [← hz2] at ho
            obtain ⟨q1, q2, q3, q4, q5, q6, q7⟩ := back_read HLN.out HR.out HRS.out HZ1.out.1 HZ1.out.2 hz2 hrsl k1 k2 k3 HN.out hn9
            have cRd := read_any mk fi R (some ⟨gb, 0, none⟩) n cb1 z2 wr hg ho.sl q3 hcb9.2
            rw [q1, q2] at cRd
            have HO2 := hid ho
            have HF2 := hid hoff
            have HL2 := hid hLr
            have HQ4 := hid (And.intro q4 (And.intro q5 (And.intro q6 q7)))
            clear hz2 ho hoff hLr q1 q2 q3 q4 q5 q6 q7
            go_wp2_with (first
              | (go_at_call 18; with_reducible refine cRd.mono ?_; rintro e x1 ⟨l1, n1, lc1, D1, rfl, oC1, hD1, hx1⟩))
            have hoff1 : Off (fun j => j = gb) w6 x1 := HF2.out.trans (F' := fun _ => False) (Off.of_below hx1) (fun _ h => h.elim)
            have ho1 := HO2.out.below hx1
            have HX1 := hid (And.intro oC1 (And.intro hD1 hx1))
            have hl1 := HL2.out.below hx1
            have hz2l := HQ4.out.1
            have HB7 := hid (And.intro hoff1 ho1)
            have hwx := hx1.size
            have hwl := HF2.out.size
            clear oC1 hD1 cRd c0 c1 c2
            go_loopw [18] (fun t wy => ∃ k : Nat, k ≤ 64 ∧ t = .int .i64 k ∧ Own .u8 5 w5.heap.size wy (some ⟨gb, 0, none⟩) n cb1 (over z2 (64 * mk) (List.replicate 64 0) k) ∧ Off (fun j => j = gb) x1 wy) (fun t _ => 64 - (RowKit.intOf t).toNat)
            case atStart => exact ⟨0, Nat.zero_le _, rfl, (by rw [over_zero _ _ _ (by omega)]; exact HB7.out.2), Off.refl _ _⟩
            case round =>
              obtain ⟨k, hk, rfl, ho, hoff⟩ := hrel
              by_cases hlt : k < 64
              · have hki : (k : Int) < 64 := by omega
                have hk0 : (0 : Int) ≤ (k : Int) := by omega
                have cL : wr.cell? ⟨w.heap.size, 0, none⟩ = some (.int .i64 (mk : Int)) := cell_far hoff hl1.c0 hl1.lt (by omega)
                have hst := ho.set (64 * mk + k) 0
                have hgz : (List.replicate 64 (0 : Int)).getD k 0 = 0 := by rw [List.getD_eq_getElem?_getD, List.getElem?_replicate]; split <;> rfl
                have hov := over_succ (zs := z2) (ys := List.replicate 64 (0 : Int)) (o := 64 * mk) (k := k) (by simpa using hlt) (by simp; omega)
                rw [hgz] at hov
                rw [hov] at hst
                have hc := ho.at (64 * mk + k) (by omega) rfl
                obtain ⟨cur, hcur, _⟩ := ho.block
                have hfz : wr.frozen? ⟨gb, 64 * mk + k, none⟩ = false := frozen_of_row wr gb _ _ _ hcur
                have b0 : (0 : Int) ≤ 64 * (mk : Int) + (k : Int) := by omega
                have b1 : 64 * (mk : Int) + (k : Int) < (n : Int) := by omega
                have wr1 : IntKind.i64.wrap (64 * (mk : Int)) = 64 * (mk : Int) := wrap64_small (by omega) (by omega)
                have wr2 : IntKind.i64.wrap (64 * (mk : Int) + (k : Int)) = 64 * (mk : Int) + (k : Int) := wrap64_small (by omega) (by omega)
                have wr3 : (64 * (mk : Int) + (k : Int)).toNat = 64 * mk + k := by omega
                have HST := hid hst
                have HOF := hid (hoff.setCell ⟨gb, 64 * mk + k, none⟩ (.int .u8 0) rfl)
                generalize (over z2 (64 * mk) (List.replicate 64 0) k).getD (64 * mk + k) 0 = yv at *
                clear hst hoff ho hcur hgz hov
                go_wp2
                go_roundw
                case rel => exact ⟨k + 1, by omega, by go_num, HST.out, HOF.out⟩
                case measure => simp [RowKit.intOf]; omega
              · obtain rfl : k = 64 := by omega
                have hLr : LogAt wr w.heap.size mk fi R := ⟨Nat.lt_of_lt_of_le hl1.lt hoff.size, cell_far hoff hl1.c0 hl1.lt (by omega), cell_far hoff hl1.c1 hl1.lt (by omega), cell_far hoff hl1.c2 hl1.lt (by omega)⟩
                obtain ⟨c0, c1, c2⟩ := And.intro hLr.c0 (And.intro hLr.c1 hLr.c2)
                have cR2 := read_any mk fi R (some ⟨gb, 0, none⟩) n cb1 _ wr hg ho.sl HQ4.out.2.2.2 hcb9.2
                rw [HQ4.out.2.1, HQ4.out.2.2.1] at cR2
                obtain ⟨oC1, hD1, hx1⟩ := HX1.out
                have oC2 := oC1.off hoff (fun j hj => by omega)
                have hbw : Below w.heap.size w wr := (HB6.out.trans (HB7.out.1.below (fun j hj => by omega) (by omega))).trans (hoff.below (fun j hj => by omega) (by omega))
                have hn1 : n1 ≤ 9223372036854775807 := by have := oC1.fit; omega
                have HBW := hid hbw
                have HOC := hid (And.intro oC2 hD1)
                have HLR := hid hLr
                clear ho hoff hLr oC1 hD1 hx1 oC2 hbw
                go_wp2_with (first
                  | (go_at_call 18; with_reducible refine cR2.mono ?_; rintro e x2 ⟨l2, n2, lc2, D2, rfl, oD2, hD2, hx2⟩; obtain rfl : n2 = 0 := (by have := congrArg List.length hD2; rw [saysN_length, List.length_nil] at this; exact this); have hb2 := next HBW.out hx2; have hLx := HLR.out.below hx2; obtain ⟨f0, f1, f2⟩ := And.intro hLx.c0 (And.intro hLx.c1 hLx.c2); have cSm := refsame_any l1 n1 lc1 D1 lo m lc D x2 (HOC.out.1.below hx2).chs (h.below hb2); rw [sameB_t HOC.out.2] at cSm)
                  | (go_at_call 21; with_reducible refine cSm.mono ?_; rintro e x3 ⟨rfl, hx3⟩; have hLy := hLx.below hx3; obtain ⟨y0, y1, y2⟩ := And.intro hLy.c0 (And.intro hLy.c1 hLy.c2); have cRw := refwright_any mk fi R (N : Int) x3 hg rg; rw [h3] at cRw)
                  | (go_at_call 14; with_reducible refine cRw.mono ?_; rintro e x4 ⟨rfl, hx4⟩))
                go_ret
                exact ⟨rfl, next (next hb2 hx3) hx4⟩
end Go.Proofs.Ytgiippbjieecmaa
