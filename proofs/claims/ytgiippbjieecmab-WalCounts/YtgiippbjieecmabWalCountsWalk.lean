/- 'WalCounts': the walk. -/
import Derived.Test.YtgiippbjieecmabMgH
import Derived.Test.YtgiippbjieecmabFew
import Derived.Test.YtgiippbjieecmabRefWR
import Derived.Test.YtgiippbjieecmabCountM
namespace Go.Proofs.Ytgiippbjieecmab
set_option maxRecDepth 100000
open Go.RowKit
set_option linter.unusedVariables false

theorem chs_goes {w w' : World} {lo : Option Addr} {m : Nat} {D : Nat → ChD} (h : Chs w lo m D) (hb : Below w.heap.size w w') : Chs w' lo m D := h.below hb
/-- May a commit of these be counted? -/
def cntOk (n m : Nat) (D : Nat → ChD) (g : Lg) : Bool := fewB D m && (decide (n ≤ 4096) && (decide (n % 64 = 0) && (rightG g ((n / 64 : Nat) : Int) && (rightB ((n / 64 : Nat) : Int) D m && decide (m ≠ 0)))))
set_option maxHeartbeats 3200000 in
theorem counts_off (w : World) (a0 : Option Addr) (n cap : Nat) (hn9 : n ≤ 9223372036854775807) (M F R : Int) (hg : (Lg.mk M F R).Ok) (lo : Option Addr) (m lc : Nat) (D : Nat → ChD) (h : Chs w lo m D) (k : Int) (hB : cntOk n m D ⟨M, F, R⟩ = false) :
    Calls Try.prog 3 #[.slice a0 n cap, .agg #[.int .i64 M, .int .i64 F, .int .i64 R], .slice lo m lc, .int .i64 k] w fun e w' => e = .returned (.bool true) ∧ Below w.heap.size w w' := by
  have hb := (Below.refl w.heap.size w).alloc (Nat.le_refl _) (.cells #[.int .i64 M, .int .i64 F, .int .i64 R] 24)
  have hL := logAt_new w M F R
  have hm9 := h.fit
  have cS := wsmall_any (w.alloc (.cells #[.int .i64 M, .int .i64 F, .int .i64 R] 24))
  unfold cntOk at hB
  have eq : (n : Int) / 64 = ((n / 64 : Nat) : Int) := by omega
  have rg : Rg ((n / 64 : Nat) : Int) := by unfold Rg; omega
  cases hf : fewB D m with
  | false =>
    clear hB
    generalize n / 64 = N at *
    go_enter Try.func3, Try.ntmps3
    go_wp2_with (first
      | (go_at_call 4; with_reducible refine cS.mono ?_; rintro e w1 ⟨rfl, hb1⟩; have h1 := h.below (next hb hb1); have cF := few_any lo m lc D w1 h1; rw [hf] at cF)
      | (go_at_call 5; with_reducible refine cF.mono ?_; rintro e w2 ⟨rfl, rfl⟩))
    go_ret
    exact ⟨rfl, next hb hb1⟩
  | true =>
    rw [hf] at hB
    by_cases h1 : n ≤ 4096
    · have h1' : ¬ ((4096 : Int) < (n : Int)) := by omega
      by_cases h2 : n % 64 = 0
      · have h2' : ((n : Int) % 64 != 0) = false := by simp; omega
        cases h3 : rightG ⟨M, F, R⟩ ((n / 64 : Nat) : Int) with
        | false =>
          clear hB h1 h2
          generalize n / 64 = N at *
          go_enter Try.func3, Try.ntmps3
          go_wp2_with (first
            | (go_at_call 4; with_reducible refine cS.mono ?_; rintro e w1 ⟨rfl, hb1⟩; have h1 := h.below (next hb hb1); have hL1 := hL.below hb1; obtain ⟨c0, c1, c2⟩ := And.intro hL1.c0 (And.intro hL1.c1 hL1.c2); have cF := few_any lo m lc D w1 h1; rw [hf] at cF; have cR := refwright_any M F R (N : Int) w1 hg rg; rw [h3] at cR)
            | (go_at_call 5; with_reducible refine cF.mono ?_; rintro e w2 ⟨rfl, rfl⟩)
            | (go_at_call 6; with_reducible refine cR.mono ?_; rintro e w3 ⟨rfl, hb3⟩))
          go_ret
          exact ⟨rfl, next (next hb hb1) hb3⟩
        | true =>
          cases h4 : rightB ((n / 64 : Nat) : Int) D m with
          | false =>
            clear hB h1 h2
            generalize n / 64 = N at *
            go_enter Try.func3, Try.ntmps3
            go_wp2_with (first
              | (go_at_call 4; with_reducible refine cS.mono ?_; rintro e w1 ⟨rfl, hb1⟩; have h1 := h.below (next hb hb1); have hL1 := hL.below hb1; obtain ⟨c0, c1, c2⟩ := And.intro hL1.c0 (And.intro hL1.c1 hL1.c2); have cF := few_any lo m lc D w1 h1; rw [hf] at cF; have cR := refwright_any M F R (N : Int) w1 hg rg; rw [h3] at cR)
              | (go_at_call 5; with_reducible refine cF.mono ?_; rintro e w2 ⟨rfl, rfl⟩)
              | (go_at_call 6; with_reducible refine cR.mono ?_; rintro e w3 ⟨rfl, hb3⟩; have cK := right_any (N : Int) lo m lc D w3 (h1.below hb3); rw [h4] at cK)
              | (go_at_call 7; with_reducible refine cK.mono ?_; rintro e w4 ⟨rfl, hb4⟩))
            go_ret
            exact ⟨rfl, next (next (next hb hb1) hb3) hb4⟩
          | true =>
            have h5 : m = 0 := by
              rw [h3, h4] at hB
              simpa [h1, h2] using hB
            subst h5
            clear hB h1 h2
            generalize n / 64 = N at *
            go_enter Try.func3, Try.ntmps3
            go_wp2_with (first
              | (go_at_call 4; with_reducible refine cS.mono ?_; rintro e w1 ⟨rfl, hb1⟩; have h1 := h.below (next hb hb1); have hL1 := hL.below hb1; obtain ⟨c0, c1, c2⟩ := And.intro hL1.c0 (And.intro hL1.c1 hL1.c2); have cF := few_any lo 0 lc D w1 h1; rw [hf] at cF; have cR := refwright_any M F R (N : Int) w1 hg rg; rw [h3] at cR)
              | (go_at_call 5; with_reducible refine cF.mono ?_; rintro e w2 ⟨rfl, rfl⟩)
              | (go_at_call 6; with_reducible refine cR.mono ?_; rintro e w3 ⟨rfl, hb3⟩; have cK := right_any (N : Int) lo 0 lc D w3 (h1.below hb3); rw [h4] at cK)
              | (go_at_call 7; with_reducible refine cK.mono ?_; rintro e w4 ⟨rfl, hb4⟩))
            go_ret
            exact ⟨rfl, next (next (next hb hb1) hb3) hb4⟩
      · have h2' : ((n : Int) % 64 != 0) = true := by simp; omega
        clear hB h1 h2
        generalize n / 64 = N at *
        go_enter Try.func3, Try.ntmps3
        go_wp2_with (first
          | (go_at_call 4; with_reducible refine cS.mono ?_; rintro e w1 ⟨rfl, hb1⟩; have h1 := h.below (next hb hb1); have cF := few_any lo m lc D w1 h1; rw [hf] at cF)
          | (go_at_call 5; with_reducible refine cF.mono ?_; rintro e w2 ⟨rfl, rfl⟩))
        go_ret
        exact ⟨rfl, next hb hb1⟩
    · have h1' : (4096 : Int) < (n : Int) := by omega
      clear hB h1
      generalize n / 64 = N at *
      go_enter Try.func3, Try.ntmps3
      go_wp2_with (first
        | (go_at_call 4; with_reducible refine cS.mono ?_; rintro e w1 ⟨rfl, hb1⟩; have h1 := h.below (next hb hb1); have cF := few_any lo m lc D w1 h1; rw [hf] at cF)
        | (go_at_call 5; with_reducible refine cF.mono ?_; rintro e w2 ⟨rfl, rfl⟩))
      go_ret
      exact ⟨rfl, next hb hb1⟩

set_option maxHeartbeats 3200000 in
theorem walCounts_walk (w : World) (a0 : Option Addr) (n cap : Nat) (z : List Int) (s0 : Sl .u8 w a0 n cap z) (f0 : ∀ x ∈ z, (Lit.int .u8 x).wf = true) (c0 : cap * 1 ≤ 140737488351232) (M F R : Int) (hg : (Lg.mk M F R).Ok) (lo : Option Addr) (m lc : Nat) (hv : lo = none → lc = 0 ∧ m = 0) (D : Nat → ChD) (h : Chs w lo m D) (k : Int) (fk : (Lit.int .i64 k).wf = true) :
    Calls Try.prog 3 #[.slice a0 n cap, .agg #[.int .i64 M, .int .i64 F, .int .i64 R], .slice lo m lc, .int .i64 k] w fun e w' => e = .returned (.bool true) ∧ Below w.heap.size w w' := by
  have hroom := s0.room
  have hlen := s0.len
  cases hB : cntOk n m D ⟨M, F, R⟩ with
  | false => exact counts_off w a0 n cap (by omega) M F R hg lo m lc D h k hB
  | true =>
    have hb := (Below.refl w.heap.size w).alloc (Nat.le_refl _) (.cells #[.int .i64 M, .int .i64 F, .int .i64 R] 24)
    have hL := logAt_new w M F R
    have hm9 := h.fit
    have cS := wsmall_any (w.alloc (.cells #[.int .i64 M, .int .i64 F, .int .i64 R] 24))
    have hby : Bytes z := bytes_wf f0
    unfold cntOk at hB
    simp only [Bool.and_eq_true, decide_eq_true_eq] at hB
    obtain ⟨hf, h1, h2, h3, h4, h5⟩ := hB
    have hm3 : m ≤ 300 := by unfold fewB at hf; simp only [Bool.and_eq_true, decide_eq_true_eq] at hf; exact hf.2
    have eq : (n : Int) / 64 = ((n / 64 : Nat) : Int) := by omega
    have rg : Rg ((n / 64 : Nat) : Int) := by unfold Rg; omega
    have h1' : ¬ ((4096 : Int) < (n : Int)) := by omega
    have h2' : ((n : Int) % 64 != 0) = false := by simp; omega
    have h5' : ((m : Int) == 0) = false := by simp; omega
    have rk : -9223372036854775808 ≤ k ∧ k ≤ 9223372036854775807 := bounds_i64 fk
    have hG := rightG_iff.1 h3
    have hl4 : rightL ((n / 64 : Nat) : Int) (saysN D m) = true := by rw [← rightB_eq]; exact h4
    have hn64 : 64 ≤ n := by
      have := hG.m0
      have := hG.m1
      omega
    have hnew : newOk n = true := by simp only [newOk, decide_eq_true_eq]; omega
    have hsn : (St.new z).n = n / 64 := by show z.length / 64 = _; rw [hlen]
    obtain ⟨E, hE⟩ : ∃ E, E = writeE ⟨M, F, R⟩ (saysN D m) := ⟨_, rfl⟩
    by_cases hE0 : E = 0
    · subst hE0
      have hcB : comB (St.new z).n ⟨M, F, R⟩ (saysN D m) = true := by unfold comB; rw [hsn, h3, hl4]; rfl
      have hne : saysN D m ≠ [] := fun e => by have := saysN_length D m; rw [e] at this; simp at this; omega
      obtain ⟨S1, hS1⟩ : ∃ S1 : St, S1 = { St.new z with armed := max k 0 } := ⟨_, rfl⟩
      have q1 : S1.n = (St.new z).n := by rw [hS1]
      have hr0 : (saysN D m).length ≤ R := (writeE_zero hE.symm).2.2.2
      obtain ⟨e1, e2⟩ := commit_runs (S := S1) (g := ⟨M, F, R⟩) (l := saysN D m) (by rw [q1]; exact hcB) hE.symm hne
      have hin : ∀ x ∈ comS ⟨M, F, R⟩ (saysN D m), inR S1.seen.length x := by
        have : S1.seen.length = 64 * (n / 64) := by rw [hS1]; show z.length = _; omega
        rw [this]
        exact comS_in hG hl4 hr0
      obtain ⟨r1, r2⟩ := run_counts (S := S1) hin (by rw [hS1]; rfl) (by rw [hS1]; show 0 ≤ max k 0; omega)
      rw [comS_length, saysN_length] at r1 r2
      have ha : S1.armed = max k 0 := by rw [hS1]
      rw [ha, ← e1, ← e2] at r1 r2
      have HC : Hid ((1 ≤ k ∧ k ≤ 10 + 2 * (m : Int) → commitE S1 ⟨M, F, R⟩ (saysN D m) = 5 ∧ (commitS S1 ⟨M, F, R⟩ (saysN D m)).down = true) ∧ (¬ (1 ≤ k ∧ k ≤ 10 + 2 * (m : Int)) → commitE S1 ⟨M, F, R⟩ (saysN D m) = 0 ∧ (commitS S1 ⟨M, F, R⟩ (saysN D m)).down = false)) := ⟨fun h => r1 (by omega), fun h => r2 (by omega)⟩
      have HS1 := hid hS1
      have HEE := hid hE.symm
      have HSZ := hid (And.intro s0 hby)
      clear r1 r2 e1 e2 ha hin q1 hS1 hE hr0 hcB hne hG h1 h2 hl4 hlen s0 hby
      generalize n / 64 = N at *
      by_cases hk : 1 ≤ k ∧ k ≤ 10 + 2 * (m : Int)
      · obtain ⟨p1, p2⟩ := HC.out.1 hk
        obtain ⟨k1, k2⟩ := hk
        have HP := hid (And.intro p1 p2)
        clear p1 p2
        go_enter Try.func3, Try.ntmps3
        go_wp2_with (first
          | (go_at_call 4; with_reducible refine cS.mono ?_; rintro e w1 ⟨rfl, hb1⟩; have h1 := h.below (next hb hb1); have hL1 := hL.below hb1; obtain ⟨c0, c1, c2⟩ := And.intro hL1.c0 (And.intro hL1.c1 hL1.c2); have cF := few_any lo m lc D w1 h1; rw [hf] at cF; have cR := refwright_any M F R (N : Int) w1 hg rg; rw [h3] at cR)
          | (go_at_call 5; with_reducible refine cF.mono ?_; rintro e w2 ⟨rfl, rfl⟩)
          | (go_at_call 6; with_reducible refine cR.mono ?_; rintro e w3 ⟨rfl, hb3⟩; have cK := right_any (N : Int) lo m lc D w3 (h1.below hb3); rw [h4] at cK; have hL3 := hL1.below hb3)
          | (go_at_call 7; with_reducible refine cK.mono ?_; rintro e w4 ⟨rfl, hb4⟩; have hL4 := hL3.below hb4; obtain ⟨d0, d1, d2⟩ := And.intro hL4.c0 (And.intro hL4.c1 hL4.c2); have hb14 := next (next (next hb hb1) hb3) hb4; have cW := write_any M F R lo m lc D w4 hg (h.below hb14); rw [HEE.out] at cW)
          | (go_at_call 8; with_reducible refine cW.mono ?_; rintro e w5 ⟨ao, na, ca, bo, nb, cb, rfl, oa, om, hne', hb5⟩; have hb15 := next hb14 hb5; have cN := new_good a0 n cap z w5 (HSZ.out.1.below hb15) HSZ.out.2 hnew; have hL5 := hL4.below hb5)
          | (go_at_call 9; with_reducible refine cN.mono ?_; rintro e w6 ⟨p, F0, rfl, hd0, hF0, hb6⟩; have hb16 := next hb15 hb6; have cA := arm_any hd0 k rk; have hL6 := hL5.below hb6; have h6 := h.below hb16)
          | (go_at_call 10; with_reducible refine cA.mono ?_; rintro e w7 ⟨rfl, hd7, g7, s7⟩; rw [← HS1.out] at hd7; have hF5 : ∀ j, F0 j → w.heap.size + 1 ≤ j := (fun j hj => (by have := hF0 j hj; have := hL5.lt; omega)); have hL7 := hL6.goes g7 (fun hf => (by have := hF5 _ hf; omega)); obtain ⟨x0, x1, x2⟩ := And.intro hL7.c0 (And.intro hL7.c1 hL7.c2); have hC7 := chs_goes h (hb16.trans (g7.off.below (fun j hj => (by have := hF5 j hj; omega)) hb16.size)); have cC := commit_any hd7 M F R lo m lc D hg hC7 (fun i hi hp c hc hfc => (by have := (h.ok i hi).bs.block_lt hp hc; have := hF5 _ hfc; omega)); rw [HP.out.1] at cC; have HF5 := hid hF5; clear hF5 s7)
          | (go_at_call 11; with_reducible refine cC.mono ?_; rintro e w8 ⟨rfl, F8, hd8, g8⟩; have cD := down_any hd8; rw [HP.out.2] at cD)
          | (go_at_call 12; with_reducible refine cD.mono ?_; rintro e w9 ⟨rfl, rfl⟩))
        go_ret
        have h78 := (g7.trans g8).off.below (B := w.heap.size) (fun j hj => by have := HF5.out j hj; omega) hb16.size
        exact ⟨(by first | rfl | (simp; omega)), hb16.trans h78⟩
      · obtain ⟨p1, p2⟩ := HC.out.2 hk
        have HP := hid (And.intro p1 p2)
        clear p1 p2
        by_cases hk1 : 1 ≤ k
        · have hk2 : ¬ (k ≤ 10 + 2 * (m : Int)) := fun h => hk ⟨hk1, h⟩
          clear hk
          go_enter Try.func3, Try.ntmps3
          go_wp2_with (first
            | (go_at_call 4; with_reducible refine cS.mono ?_; rintro e w1 ⟨rfl, hb1⟩; have h1 := h.below (next hb hb1); have hL1 := hL.below hb1; obtain ⟨c0, c1, c2⟩ := And.intro hL1.c0 (And.intro hL1.c1 hL1.c2); have cF := few_any lo m lc D w1 h1; rw [hf] at cF; have cR := refwright_any M F R (N : Int) w1 hg rg; rw [h3] at cR)
            | (go_at_call 5; with_reducible refine cF.mono ?_; rintro e w2 ⟨rfl, rfl⟩)
            | (go_at_call 6; with_reducible refine cR.mono ?_; rintro e w3 ⟨rfl, hb3⟩; have cK := right_any (N : Int) lo m lc D w3 (h1.below hb3); rw [h4] at cK; have hL3 := hL1.below hb3)
            | (go_at_call 7; with_reducible refine cK.mono ?_; rintro e w4 ⟨rfl, hb4⟩; have hL4 := hL3.below hb4; obtain ⟨d0, d1, d2⟩ := And.intro hL4.c0 (And.intro hL4.c1 hL4.c2); have hb14 := next (next (next hb hb1) hb3) hb4; have cW := write_any M F R lo m lc D w4 hg (h.below hb14); rw [HEE.out] at cW)
            | (go_at_call 8; with_reducible refine cW.mono ?_; rintro e w5 ⟨ao, na, ca, bo, nb, cb, rfl, oa, om, hne', hb5⟩; have hb15 := next hb14 hb5; have cN := new_good a0 n cap z w5 (HSZ.out.1.below hb15) HSZ.out.2 hnew; have hL5 := hL4.below hb5)
            | (go_at_call 9; with_reducible refine cN.mono ?_; rintro e w6 ⟨p, F0, rfl, hd0, hF0, hb6⟩; have hb16 := next hb15 hb6; have cA := arm_any hd0 k rk; have hL6 := hL5.below hb6; have h6 := h.below hb16)
            | (go_at_call 10; with_reducible refine cA.mono ?_; rintro e w7 ⟨rfl, hd7, g7, s7⟩; rw [← HS1.out] at hd7; have hF5 : ∀ j, F0 j → w.heap.size + 1 ≤ j := (fun j hj => (by have := hF0 j hj; have := hL5.lt; omega)); have hL7 := hL6.goes g7 (fun hf => (by have := hF5 _ hf; omega)); obtain ⟨x0, x1, x2⟩ := And.intro hL7.c0 (And.intro hL7.c1 hL7.c2); have hC7 := chs_goes h (hb16.trans (g7.off.below (fun j hj => (by have := hF5 j hj; omega)) hb16.size)); have cC := commit_any hd7 M F R lo m lc D hg hC7 (fun i hi hp c hc hfc => (by have := (h.ok i hi).bs.block_lt hp hc; have := hF5 _ hfc; omega)); rw [HP.out.1] at cC; have HF5 := hid hF5; clear hF5 s7)
            | (go_at_call 11; with_reducible refine cC.mono ?_; rintro e w8 ⟨rfl, F8, hd8, g8⟩; have cD := down_any hd8; rw [HP.out.2] at cD)
            | (go_at_call 12; with_reducible refine cD.mono ?_; rintro e w9 ⟨rfl, rfl⟩))
          go_ret
          have h78 := (g7.trans g8).off.below (B := w.heap.size) (fun j hj => by have := HF5.out j hj; omega) hb16.size
          exact ⟨(by first | rfl | (simp; omega)), hb16.trans h78⟩
        · clear hk
          go_enter Try.func3, Try.ntmps3
          go_wp2_with (first
            | (go_at_call 4; with_reducible refine cS.mono ?_; rintro e w1 ⟨rfl, hb1⟩; have h1 := h.below (next hb hb1); have hL1 := hL.below hb1; obtain ⟨c0, c1, c2⟩ := And.intro hL1.c0 (And.intro hL1.c1 hL1.c2); have cF := few_any lo m lc D w1 h1; rw [hf] at cF; have cR := refwright_any M F R (N : Int) w1 hg rg; rw [h3] at cR)
            | (go_at_call 5; with_reducible refine cF.mono ?_; rintro e w2 ⟨rfl, rfl⟩)
            | (go_at_call 6; with_reducible refine cR.mono ?_; rintro e w3 ⟨rfl, hb3⟩; have cK := right_any (N : Int) lo m lc D w3 (h1.below hb3); rw [h4] at cK; have hL3 := hL1.below hb3)
            | (go_at_call 7; with_reducible refine cK.mono ?_; rintro e w4 ⟨rfl, hb4⟩; have hL4 := hL3.below hb4; obtain ⟨d0, d1, d2⟩ := And.intro hL4.c0 (And.intro hL4.c1 hL4.c2); have hb14 := next (next (next hb hb1) hb3) hb4; have cW := write_any M F R lo m lc D w4 hg (h.below hb14); rw [HEE.out] at cW)
            | (go_at_call 8; with_reducible refine cW.mono ?_; rintro e w5 ⟨ao, na, ca, bo, nb, cb, rfl, oa, om, hne', hb5⟩; have hb15 := next hb14 hb5; have cN := new_good a0 n cap z w5 (HSZ.out.1.below hb15) HSZ.out.2 hnew; have hL5 := hL4.below hb5)
            | (go_at_call 9; with_reducible refine cN.mono ?_; rintro e w6 ⟨p, F0, rfl, hd0, hF0, hb6⟩; have hb16 := next hb15 hb6; have cA := arm_any hd0 k rk; have hL6 := hL5.below hb6; have h6 := h.below hb16)
            | (go_at_call 10; with_reducible refine cA.mono ?_; rintro e w7 ⟨rfl, hd7, g7, s7⟩; rw [← HS1.out] at hd7; have hF5 : ∀ j, F0 j → w.heap.size + 1 ≤ j := (fun j hj => (by have := hF0 j hj; have := hL5.lt; omega)); have hL7 := hL6.goes g7 (fun hf => (by have := hF5 _ hf; omega)); obtain ⟨x0, x1, x2⟩ := And.intro hL7.c0 (And.intro hL7.c1 hL7.c2); have hC7 := chs_goes h (hb16.trans (g7.off.below (fun j hj => (by have := hF5 j hj; omega)) hb16.size)); have cC := commit_any hd7 M F R lo m lc D hg hC7 (fun i hi hp c hc hfc => (by have := (h.ok i hi).bs.block_lt hp hc; have := hF5 _ hfc; omega)); rw [HP.out.1] at cC; have HF5 := hid hF5; clear hF5 s7)
            | (go_at_call 11; with_reducible refine cC.mono ?_; rintro e w8 ⟨rfl, F8, hd8, g8⟩; have cD := down_any hd8; rw [HP.out.2] at cD)
            | (go_at_call 12; with_reducible refine cD.mono ?_; rintro e w9 ⟨rfl, rfl⟩))
          go_ret
          have h78 := (g7.trans g8).off.below (B := w.heap.size) (fun j hj => by have := HF5.out j hj; omega) hb16.size
          exact ⟨(by first | rfl | (simp; omega)), hb16.trans h78⟩
    · have hE' : (E != 0) = true := by simpa using hE0
      have HEE := hid hE.symm
      clear hE hG h1 h2
      generalize n / 64 = N at *
      go_enter Try.func3, Try.ntmps3
      go_wp2_with (first
        | (go_at_call 4; with_reducible refine cS.mono ?_; rintro e w1 ⟨rfl, hb1⟩; have h1 := h.below (next hb hb1); have hL1 := hL.below hb1; obtain ⟨c0, c1, c2⟩ := And.intro hL1.c0 (And.intro hL1.c1 hL1.c2); have cF := few_any lo m lc D w1 h1; rw [hf] at cF; have cR := refwright_any M F R (N : Int) w1 hg rg; rw [h3] at cR)
        | (go_at_call 5; with_reducible refine cF.mono ?_; rintro e w2 ⟨rfl, rfl⟩)
        | (go_at_call 6; with_reducible refine cR.mono ?_; rintro e w3 ⟨rfl, hb3⟩; have cK := right_any (N : Int) lo m lc D w3 (h1.below hb3); rw [h4] at cK; have hL3 := hL1.below hb3)
        | (go_at_call 7; with_reducible refine cK.mono ?_; rintro e w4 ⟨rfl, hb4⟩; have hL4 := hL3.below hb4; obtain ⟨d0, d1, d2⟩ := And.intro hL4.c0 (And.intro hL4.c1 hL4.c2); have hb14 := next (next (next hb hb1) hb3) hb4; have cW := write_any M F R lo m lc D w4 hg (h.below hb14); rw [HEE.out] at cW)
        | (go_at_call 8; with_reducible refine cW.mono ?_; rintro e w5 ⟨ao, na, ca, bo, nb, cb, rfl, oa, om, hne', hb5⟩; have hb15 := next hb14 hb5; have cN := new_good a0 n cap z w5 (s0.below hb15) hby hnew)
        | (go_at_call 9; with_reducible refine cN.mono ?_; rintro e w6 ⟨p, F0, rfl, hd0, hF0, hb6⟩))
      go_ret
      exact ⟨rfl, next hb15 hb6⟩
end Go.Proofs.Ytgiippbjieecmab
