/- The document's log: Right, Mine by their contracts. -/
import Derived.Test.YtgiippbjieecmaaGreatMgH
namespace Go.Proofs.YtgiippbjieecmaaGreat
set_option maxRecDepth 100000
open Go.RowKit
set_option linter.unusedVariables false

theorem refwright_any (M F R : Int) (n : Int) (w : World) (hg : (Lg.mk M F R).Ok) (hn : Rg n) :
    Calls Tryz.prog 32 #[.agg #[.int .i64 M, .int .i64 F, .int .i64 R], .int .i64 n] w fun e w' => e = .returned (.bool (rightG ⟨M, F, R⟩ n)) ∧ Below w.heap.size w w' := by
  obtain ⟨⟨m0, m1⟩, ⟨f0, f1⟩, ⟨r0, r1⟩⟩ := hg
  obtain ⟨n0, n1⟩ := hn
  simp only at m0 m1 f0 f1 r0 r1
  have hb := (Below.refl w.heap.size w).alloc (Nat.le_refl _) (.cells #[.int .i64 M, .int .i64 F, .int .i64 R] 24)
  have go : ∀ b : Bool, rightG ⟨M, F, R⟩ n = b → Ending.returned (Value.bool b) = .returned (.bool (rightG ⟨M, F, R⟩ n)) := fun b h => by rw [h]
  by_cases h1 : R < 1
  · go_enter Tryz.func32, Tryz.ntmps32
    go_wp2
    go_ret
    exact ⟨go _ (rightG_f (fun h => by have := h.r0; simp only at this; omega)), hb⟩
  · by_cases h2 : 4096 < R
    · go_enter Tryz.func32, Tryz.ntmps32
      go_wp2
      go_ret
      exact ⟨go _ (rightG_f (fun h => by have := h.r1; simp only at this; omega)), hb⟩
    · by_cases h3 : F < 0
      · go_enter Tryz.func32, Tryz.ntmps32
        go_wp2
        go_ret
        exact ⟨go _ (rightG_f (fun h => by have := h.f0; simp only at this; omega)), hb⟩
      · by_cases h4 : n < F
        · go_enter Tryz.func32, Tryz.ntmps32
          go_wp2
          go_ret
          exact ⟨go _ (rightG_f (fun h => by have := h.f1; simp only at this; omega)), hb⟩
        · by_cases h5 : n - F < 2 * R
          · go_enter Tryz.func32, Tryz.ntmps32
            go_wp2
            go_ret
            exact ⟨go _ (rightG_f (fun h => by have := h.f1; simp only at this; omega)), hb⟩
          · by_cases h6 : M < 0
            · go_enter Tryz.func32, Tryz.ntmps32
              go_wp2
              go_ret
              exact ⟨go _ (rightG_f (fun h => by have := h.m0; simp only at this; omega)), hb⟩
            · by_cases h7 : n ≤ M
              · go_enter Tryz.func32, Tryz.ntmps32
                go_wp2
                go_ret
                exact ⟨go _ (rightG_f (fun h => by have := h.m1; simp only at this; omega)), hb⟩
              · by_cases h8 : M < F
                · go_enter Tryz.func32, Tryz.ntmps32
                  go_wp2
                  go_ret
                  exact ⟨go _ (rightG_iff.2 ⟨by simp only; omega, by simp only; omega, by simp only; omega, by simp only; omega, by simp only; omega, by simp only; omega, by simp only; omega⟩), hb⟩
                · by_cases h9 : F + 2 * R ≤ M
                  · go_enter Tryz.func32, Tryz.ntmps32
                    go_wp2
                    go_ret
                    exact ⟨go _ (rightG_iff.2 ⟨by simp only; omega, by simp only; omega, by simp only; omega, by simp only; omega, by simp only; omega, by simp only; omega, by simp only; omega⟩), hb⟩
                  · go_enter Tryz.func32, Tryz.ntmps32
                    go_wp2
                    go_ret
                    exact ⟨go _ (rightG_f (fun h => by have := h.ap; simp only at this; omega)), hb⟩
theorem refmine_any (M F R : Int) (line : Int) (w : World) (hg : (Lg.mk M F R).Ok) (hl : Rg line) :
    Calls Tryz.prog 74 #[.agg #[.int .i64 M, .int .i64 F, .int .i64 R], .int .i64 line] w fun e w' => e = .returned (.bool (mineG ⟨M, F, R⟩ line)) ∧ Below w.heap.size w w' := by
  have hb := (Below.refl w.heap.size w).alloc (Nat.le_refl _) (.cells #[.int .i64 M, .int .i64 F, .int .i64 R] 24)
  have hL := logAt_new w M F R
  have h4 : Rg 4096 := by unfold Rg; omega
  obtain ⟨l0, l1⟩ := hl
  have cR := refwright_any M F R 4096 (w.alloc (.cells #[.int .i64 M, .int .i64 F, .int .i64 R] 24)) hg h4
  have go : ∀ b : Bool, mineG ⟨M, F, R⟩ line = b → Ending.returned (Value.bool b) = .returned (.bool (mineG ⟨M, F, R⟩ line)) := fun b h => by rw [h]
  cases hr : rightG ⟨M, F, R⟩ 4096
  · rw [hr] at cR
    have e1 := mineG_f (line := line) hr
    go_enter Tryz.func74, Tryz.ntmps74
    go_wp2_with (go_at_call 32; with_reducible refine cR.mono ?_; rintro e w' ⟨rfl, hb2⟩)
    go_ret
    exact ⟨go _ e1, next hb hb2⟩
  · rw [hr] at cR
    have hR := rightG_iff.1 hr
    have hR1 : 1 ≤ R := hR.r0
    have hR2 : R ≤ 4096 := hR.r1
    have hF0 : 0 ≤ F := hR.f0
    have hF1 : F ≤ 9223372036854775807 := hg.f.2
    have HE : Hid (mineG ⟨M, F, R⟩ line = (decide (line = M) || inG ⟨M, F, R⟩ line)) := mineG_t (line := line) hr
    clear hR
    by_cases he : line = M
    · go_enter Tryz.func74, Tryz.ntmps74
      go_wp2_with (go_at_call 32; with_reducible refine cR.mono ?_; rintro e w' ⟨rfl, hb2⟩; have hL2 := hL.below hb2; obtain ⟨c0, c1, c2⟩ := And.intro hL2.c0 (And.intro hL2.c1 hL2.c2))
      go_ret
      exact ⟨go _ (by rw [HE.out, he]; simp), next hb hb2⟩
    · by_cases h1 : F ≤ line
      · by_cases h2 : line - F < 2 * R
        · have e2 := inG_t (g := ⟨M, F, R⟩) (line := line) ⟨h1, by simp only; omega⟩
          go_enter Tryz.func74, Tryz.ntmps74
          go_wp2_with (go_at_call 32; with_reducible refine cR.mono ?_; rintro e w' ⟨rfl, hb2⟩; have hL2 := hL.below hb2; obtain ⟨c0, c1, c2⟩ := And.intro hL2.c0 (And.intro hL2.c1 hL2.c2))
          go_ret
          exact ⟨go _ (by rw [HE.out, e2]; simp), next hb hb2⟩
        · have e2 := inG_f (g := ⟨M, F, R⟩) (line := line) (by simp only; omega)
          go_enter Tryz.func74, Tryz.ntmps74
          go_wp2_with (go_at_call 32; with_reducible refine cR.mono ?_; rintro e w' ⟨rfl, hb2⟩; have hL2 := hL.below hb2; obtain ⟨c0, c1, c2⟩ := And.intro hL2.c0 (And.intro hL2.c1 hL2.c2))
          go_ret
          exact ⟨go _ (by rw [HE.out, e2]; simp [he] <;> omega), next hb hb2⟩
      · have e2 := inG_f (g := ⟨M, F, R⟩) (line := line) (by simp only; omega)
        go_enter Tryz.func74, Tryz.ntmps74
        go_wp2_with (go_at_call 32; with_reducible refine cR.mono ?_; rintro e w' ⟨rfl, hb2⟩; have hL2 := hL.below hb2; obtain ⟨c0, c1, c2⟩ := And.intro hL2.c0 (And.intro hL2.c1 hL2.c2))
        go_ret
        exact ⟨go _ (by rw [HE.out, e2]; simp [he]), next hb hb2⟩

end Go.Proofs.YtgiippbjieecmaaGreat
