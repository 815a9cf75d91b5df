/- 'WalRooms': the walk. -/
import Derived.Test.YtgiippbjieecmaaSmallWal
import Derived.Test.YtgiippbjieecmaaFew
namespace Go.Proofs.Ytgiippbjieecmaa
set_option maxRecDepth 100000
open Go.RowKit
set_option linter.unusedVariables false

theorem write_cases (g : Lg) (l : List Chg) : writeE g l = 1 ∨ (writeE g l = 6 ∧ g.room < l.length) ∨ (writeE g l = 0 ∧ ¬ g.room < l.length) := by
  unfold writeE
  by_cases h1 : (rightG g 4096 && (rightL 4096 l && !meetsG g l)) = true
  · rw [if_pos h1]
    by_cases h2 : g.room < l.length
    · rw [if_pos h2]; exact Or.inr (Or.inl ⟨rfl, h2⟩)
    · rw [if_neg h2]; exact Or.inr (Or.inr ⟨rfl, h2⟩)
  · rw [if_neg h1]; exact Or.inl rfl
set_option maxHeartbeats 1600000 in
theorem walRooms_walk (w : World) (M F R : Int) (hg : (Lg.mk M F R).Ok) (lo : Option Addr) (m lc : Nat) (hv : lo = none → lc = 0 ∧ m = 0) (D : Nat → ChD) (h : Chs w lo m D) :
    Calls Try.prog 7 #[.agg #[.int .i64 M, .int .i64 F, .int .i64 R], .slice lo m lc] w fun e w' => e = .returned (.bool true) ∧ Below w.heap.size w w' := by
  have hb := (Below.refl w.heap.size w).alloc (Nat.le_refl _) (.cells #[.int .i64 M, .int .i64 F, .int .i64 R] 23)
  have hL := logAt_new w M F R
  have hm9 := h.fit
  have hW := write_cases ⟨M, F, R⟩ (saysN D m)
  rw [saysN_length] at hW
  simp only at hW
  have cS := wsmall_any (w.alloc (.cells #[.int .i64 M, .int .i64 F, .int .i64 R] 23))
  cases hf : fewB D m with
  | false =>
    go_enter Try.func7, Try.ntmps7
    go_wp2_with (first
      | (go_at_call 8; with_reducible refine cS.mono ?_; rintro e w1 ⟨rfl, hb1⟩; have h1 := h.below (next hb hb1); have hL1 := hL.below hb1; obtain ⟨c0, c1, c2⟩ := And.intro hL1.c0 (And.intro hL1.c1 hL1.c2); have cF := few_any lo m lc D w1 h1; rw [hf] at cF; have cW := write_any M F R lo m lc D w1 hg h1)
      | (go_at_call 9; with_reducible refine cF.mono ?_; rintro e w2 ⟨rfl, rfl⟩)
      | (go_at_call 10; with_reducible refine cW.mono ?_; rintro e w3 ⟨ao, na, ca, bo, nb, cb, rfl, oa, om, hne, hb3⟩))
    go_ret
    exact ⟨rfl, next (next hb hb1) hb3⟩
  | true =>
    rcases hW with hE | ⟨hE, hR⟩ | ⟨hE, hR⟩
    all_goals
      go_enter Try.func7, Try.ntmps7
      go_wp2_with (first
        | (go_at_call 8; with_reducible refine cS.mono ?_; rintro e w1 ⟨rfl, hb1⟩; have h1 := h.below (next hb hb1); have hL1 := hL.below hb1; obtain ⟨c0, c1, c2⟩ := And.intro hL1.c0 (And.intro hL1.c1 hL1.c2); have cF := few_any lo m lc D w1 h1; rw [hf] at cF; have cW := write_any M F R lo m lc D w1 hg h1; rw [hE] at cW)
        | (go_at_call 9; with_reducible refine cF.mono ?_; rintro e w2 ⟨rfl, rfl⟩)
        | (go_at_call 10; with_reducible refine cW.mono ?_; rintro e w3 ⟨ao, na, ca, bo, nb, cb, rfl, oa, om, hne, hb3⟩; have hL3 := hL1.below hb3; obtain ⟨d0, d1, d2⟩ := And.intro hL3.c0 (And.intro hL3.c1 hL3.c2)))
      go_ret
      exact ⟨(by simp <;> omega), next (next hb hb1) hb3⟩
end Go.Proofs.Ytgiippbjieecmaa
