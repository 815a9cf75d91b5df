/- 'WalReads': the walk. -/
import Derived.Test.YtgiippbjieecmaaRefRead
import Derived.Test.YtgiippbjieecmaaMgH
import Derived.Test.YtgiippbjieecmaaRefSameC
import Derived.Test.YtgiippbjieecmaaLent
import Derived.Test.YtgiippbjieecmaaSpoil
namespace Go.Proofs.Ytgiippbjieecmaa
set_option maxRecDepth 100000
open Go.RowKit
set_option linter.unusedVariables false

theorem lentd_kept {w w' : World} {g B : Nat} {zs : List Int} (h : Lentd w g zs) (hb : Below B w w') (hg : g < B) : Lentd w' g zs := by
  unfold Lentd at h ⊢
  rw [hb.block g hg]
  exact h
set_option maxHeartbeats 3200000 in
theorem walReads_walk (w : World) (M F R : Int) (hg : (Lg.mk M F R).Ok) (a0 : Option Addr) (n cap : Nat) (z : List Int) (s0 : Sl .u8 w a0 n cap z) (f0 : ∀ x ∈ z, (Lit.int .u8 x).wf = true) (c0 : cap * 1 ≤ 140737488351232) :
    Calls Try.prog 4 #[.agg #[.int .i64 M, .int .i64 F, .int .i64 R], .slice a0 n cap] w fun e w' => e = .returned (.bool true) ∧ Below w.heap.size w w' := by
  have hroom := s0.room
  have hlen := s0.len
  have hby : Bytes z := bytes_wf f0
  have hb := (Below.refl w.heap.size w).alloc (Nat.le_refl _) (.cells #[.int .i64 M, .int .i64 F, .int .i64 R] 23)
  have hL := logAt_new w M F R
  have cS := wsmall_any (w.alloc (.cells #[.int .i64 M, .int .i64 F, .int .i64 R] 23))
  by_cases h1 : n ≤ 8192
  · have h1' : ¬ ((8192 : Int) < (n : Int)) := by omega
    have hn9 : n ≤ 140737488355328 := by omega
    have hc9 : cap ≤ 9223372036854775807 := by omega
    have hc8 : n + 1 ≤ 9223372036854775807 := by omega
    clear h1
    go_enter Try.func4, Try.ntmps4
    go_wp2_with (first
      | (go_at_call 8; with_reducible refine cS.mono ?_; rintro e w1 ⟨rfl, hb1⟩; have hw1 := next hb hb1; have cL := lent_any a0 n cap z w1 (s0.below hw1) hn9; have hL1 := hL.below hb1)
      | (go_at_call 17; with_reducible refine cL.mono ?_; rintro e w2 ⟨rfl, hl2, hb2⟩; have hw2 := next hw1 hb2; have hL2 := hL1.below hb2; obtain ⟨d0, d1, d2⟩ := And.intro hL2.c0 (And.intro hL2.c1 hL2.c2); have cR := read_any M F R _ n (n + 1) z w2 hg (hl2.sl hlen) hby hc8)
      | (go_at_call 18; with_reducible refine cR.mono ?_; rintro e w3 ⟨lo, k, lc, D, rfl, oC, hD, hb3⟩; have hw3 := next hw2 hb3; have hw3sz := hb3.size; have hl3 := hl2.below hb3; have hL3 := hL2.below hb3; obtain ⟨e0, e1, e2⟩ := And.intro hL3.c0 (And.intro hL3.c1 hL3.c2); have cK := kept_any _ a0 n cap z w3 hl3 (s0.below hw3) hn9; have cX := refread_any M F R a0 n cap z w3 hg (s0.below hw3) hby hc9; clear hb3)
      | (go_at_call 19; with_reducible refine cK.mono ?_; rintro e w' ⟨rfl, rfl⟩)
      | (go_at_call 20; with_reducible refine cX.mono ?_; rintro e w4 ⟨lo4, k4, lc4, D4, rfl, oC4, hD4, hb4⟩; have hw4 := next hw3 hb4; have hl4 := hl3.below hb4; have cM := refsame_any lo k lc D lo4 k4 lc4 D4 w4 (oC.below hb4).chs oC4.chs; rw [sameB_t (hD.trans hD4.symm)] at cM; have oD := oC.below hb4)
      | (go_at_call 21; with_reducible refine cM.mono ?_; rintro e w5 ⟨rfl, hb5⟩; have hw5 := next hw4 hb5; have hl5 := hl4.below hb5; have cP := spoil_any w2.heap.size lo k lc D w5 (oD.below hb5) (Nat.le_trans hw3sz (Nat.le_trans hb4.size hb5.size)))
      | (go_at_call 22; with_reducible refine cP.mono ?_; rintro e w6 ⟨rfl, hb6⟩; have hw6 := hw5.trans (hb6.mono hw2.size); have hl6 := lentd_kept hl5 hb6 hl2.lt; have cK6 := kept_any _ a0 n cap z w6 hl6 (s0.below hw6) hn9)
      | (go_at_call 19; with_reducible refine cK6.mono ?_; rintro e w' ⟨rfl, rfl⟩))
    go_ret
    exact ⟨by simp, hw6⟩
  · have h1' : (8192 : Int) < (n : Int) := by omega
    clear h1
    go_enter Try.func4, Try.ntmps4
    go_wp2_with (go_at_call 8; with_reducible refine cS.mono ?_; rintro e w1 ⟨rfl, hb1⟩)
    go_ret
    exact ⟨rfl, next hb hb1⟩
end Go.Proofs.Ytgiippbjieecmaa
