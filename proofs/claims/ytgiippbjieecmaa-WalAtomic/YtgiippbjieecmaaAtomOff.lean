/- 'WalAtomic': where nothing is asked. -/
import Derived.Test.YtgiippbjieecmaaAtomSit
import Derived.Test.YtgiippbjieecmaaMgH
import Derived.Test.YtgiippbjieecmaaFew
namespace Go.Proofs.Ytgiippbjieecmaa
set_option maxRecDepth 100000
open Go.RowKit
set_option linter.unusedVariables false

def atomOk (n m : Nat) (D : Nat → ChD) (g : Lg) : Bool := fewB D m && (decide (n ≤ 4096) && (decide (n % 64 = 0) && rightG g ((n / 64 : Nat) : Int)))
set_option maxHeartbeats 3200000 in
theorem atom_off (w : World) (a0 : Option Addr) (n cap : Nat) (z : List Int) (s0 : Sl .u8 w a0 n cap z) (f0 : ∀ x ∈ z, (Lit.int .u8 x).wf = true) (c0 : cap * 1 ≤ 140737488351232) (M F R : Int) (hg : (Lg.mk M F R).Ok) (lo : Option Addr) (m lc : Nat) (hv : lo = none → lc = 0 ∧ m = 0) (D : Nat → ChD) (h : Chs w lo m D) (A : FallD) (hA : FallOk w A) (fo : Option Addr) (fl fc : Nat) (E : Nat → FallD) (hF : Falls w fo fl E) (hB : atomOk n m D ⟨M, F, R⟩ = false) : Calls Try.prog 5 #[.slice a0 n cap, .agg #[.int .i64 M, .int .i64 F, .int .i64 R], .slice lo m lc, .agg #[.int .i64 A.n, .slice A.ka A.kl A.kc], .slice fo fl fc] w fun e w' => e = .returned (.bool true) ∧ Below w.heap.size w w' := by
  have hroom := s0.room
  have HA := hid (args_new (M := M) (F1 := F) (R := R) s0 h hA hF)
  have cS := wsmall_any ((w.alloc (.cells #[.int .i64 M, .int .i64 F, .int .i64 R] 23)).alloc (.cells #[.int .i64 A.n, .slice A.ka A.kl A.kc] 44))
  have hm9 := h.fit
  unfold atomOk at hB
  have eq : (n : Int) / 64 = ((n / 64 : Nat) : Int) := by omega
  have rg : Rg ((n / 64 : Nat) : Int) := by unfold Rg; omega
  have hk9 := hA.k9
  clear s0 h hA hF
  cases hf : fewB D m with
  | false =>
    clear hB
    generalize n / 64 = N at *
    go_enter Try.func5, Try.ntmps5
    go_wp2_with (first
      | (go_at_call 8; with_reducible refine cS.mono ?_; rintro e w1 ⟨rfl, hb1⟩; have a1 := HA.out.1.below hb1; have bw1 := next HA.out.2 hb1; have l1 := a1.lg; obtain ⟨c0, c1, c2⟩ := And.intro l1.c0 (And.intro l1.c1 l1.c2); have cF := few_any lo m lc D w1 a1.ch; rw [hf] at cF; have HA1 := hid (And.intro a1 bw1); clear l1 a1 bw1)
      | (go_at_call 9; with_reducible refine cF.mono ?_; rintro e w2 ⟨rfl, rfl⟩))
    go_ret
    exact ⟨rfl, HA1.out.2⟩
  | true =>
    rw [hf] at hB
    by_cases h1 : n ≤ 4096
    · have h1' : ¬ ((4096 : Int) < (n : Int)) := by omega
      by_cases h2 : n % 64 = 0
      · have h2' : ((n : Int) % 64 != 0) = false := by simp; omega
        have h3 : rightG ⟨M, F, R⟩ ((n / 64 : Nat) : Int) = false := by simpa [h1, h2] using hB
        clear hB h1 h2
        generalize n / 64 = N at *
        go_enter Try.func5, Try.ntmps5
        go_wp2_with (first
          | (go_at_call 8; with_reducible refine cS.mono ?_; rintro e w1 ⟨rfl, hb1⟩; have a1 := HA.out.1.below hb1; have bw1 := next HA.out.2 hb1; have l1 := a1.lg; obtain ⟨c0, c1, c2⟩ := And.intro l1.c0 (And.intro l1.c1 l1.c2); have cF := few_any lo m lc D w1 a1.ch; rw [hf] at cF; have HA1 := hid (And.intro a1 bw1); clear l1 a1 bw1; have cR := refwright_any M F R (N : Int) w1 hg rg; rw [h3] at cR)
          | (go_at_call 9; with_reducible refine cF.mono ?_; rintro e w2 ⟨rfl, rfl⟩)
          | (go_at_call 14; with_reducible refine cR.mono ?_; rintro e w2 ⟨rfl, hb2⟩))
        go_ret
        exact ⟨rfl, next HA1.out.2 hb2⟩
      · have h2' : ((n : Int) % 64 != 0) = true := by simp; omega
        clear hB h1 h2
        generalize n / 64 = N at *
        go_enter Try.func5, Try.ntmps5
        go_wp2_with (first
          | (go_at_call 8; with_reducible refine cS.mono ?_; rintro e w1 ⟨rfl, hb1⟩; have a1 := HA.out.1.below hb1; have bw1 := next HA.out.2 hb1; have l1 := a1.lg; obtain ⟨c0, c1, c2⟩ := And.intro l1.c0 (And.intro l1.c1 l1.c2); have cF := few_any lo m lc D w1 a1.ch; rw [hf] at cF; have HA1 := hid (And.intro a1 bw1); clear l1 a1 bw1)
          | (go_at_call 9; with_reducible refine cF.mono ?_; rintro e w2 ⟨rfl, rfl⟩))
        go_ret
        exact ⟨rfl, HA1.out.2⟩
    · have h1' : (4096 : Int) < (n : Int) := by omega
      clear hB h1
      generalize n / 64 = N at *
      go_enter Try.func5, Try.ntmps5
      go_wp2_with (first
        | (go_at_call 8; with_reducible refine cS.mono ?_; rintro e w1 ⟨rfl, hb1⟩; have a1 := HA.out.1.below hb1; have bw1 := next HA.out.2 hb1; have l1 := a1.lg; obtain ⟨c0, c1, c2⟩ := And.intro l1.c0 (And.intro l1.c1 l1.c2); have cF := few_any lo m lc D w1 a1.ch; rw [hf] at cF; have HA1 := hid (And.intro a1 bw1); clear l1 a1 bw1)
        | (go_at_call 9; with_reducible refine cF.mono ?_; rintro e w2 ⟨rfl, rfl⟩))
      go_ret
      exact ⟨rfl, HA1.out.2⟩
end Go.Proofs.Ytgiippbjieecmaa
