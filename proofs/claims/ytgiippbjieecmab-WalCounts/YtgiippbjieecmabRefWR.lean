/- The document's log: Right, Mine by their contracts. -/
import Derived.Test.YtgiippbjieecmabMgH
namespace Go.Proofs.Ytgiippbjieecmab
set_option maxRecDepth 100000
open Go.RowKit
set_option linter.unusedVariables false

theorem refwright_any (M F R : Int) (n : Int) (w : World) (hg : (Lg.mk M F R).Ok) (hn : Rg n) :
    Calls Try.prog 6 #[.agg #[.int .i64 M, .int .i64 F, .int .i64 R], .int .i64 n] w fun e w' => e = .returned (.bool (rightG ⟨M, F, R⟩ n)) ∧ Below w.heap.size w w' := by
  obtain ⟨⟨m0, m1⟩, ⟨f0, f1⟩, ⟨r0, r1⟩⟩ := hg
  obtain ⟨n0, n1⟩ := hn
  simp only at m0 m1 f0 f1 r0 r1
  have hb := (Below.refl w.heap.size w).alloc (Nat.le_refl _) (.cells #[.int .i64 M, .int .i64 F, .int .i64 R] 24)
  have go : ∀ b : Bool, rightG ⟨M, F, R⟩ n = b → Ending.returned (Value.bool b) = .returned (.bool (rightG ⟨M, F, R⟩ n)) := fun b h => by rw [h]
  by_cases h1 : R < 1
  · go_enter Try.func6, Try.ntmps6
    go_wp2
    go_ret
    exact ⟨go _ (rightG_f (fun h => by have := h.r0; simp only at this; omega)), hb⟩
  · by_cases h2 : 4096 < R
    · go_enter Try.func6, Try.ntmps6
      go_wp2
      go_ret
      exact ⟨go _ (rightG_f (fun h => by have := h.r1; simp only at this; omega)), hb⟩
    · by_cases h3 : F < 0
      · go_enter Try.func6, Try.ntmps6
        go_wp2
        go_ret
        exact ⟨go _ (rightG_f (fun h => by have := h.f0; simp only at this; omega)), hb⟩
      · by_cases h4 : n < F
        · go_enter Try.func6, Try.ntmps6
          go_wp2
          go_ret
          exact ⟨go _ (rightG_f (fun h => by have := h.f1; simp only at this; omega)), hb⟩
        · by_cases h5 : n - F < 2 * R
          · go_enter Try.func6, Try.ntmps6
            go_wp2
            go_ret
            exact ⟨go _ (rightG_f (fun h => by have := h.f1; simp only at this; omega)), hb⟩
          · by_cases h6 : M < 0
            · go_enter Try.func6, Try.ntmps6
              go_wp2
              go_ret
              exact ⟨go _ (rightG_f (fun h => by have := h.m0; simp only at this; omega)), hb⟩
            · by_cases h7 : n ≤ M
              · go_enter Try.func6, Try.ntmps6
                go_wp2
                go_ret
                exact ⟨go _ (rightG_f (fun h => by have := h.m1; simp only at this; omega)), hb⟩
              · by_cases h8 : M < F
                · go_enter Try.func6, Try.ntmps6
                  go_wp2
                  go_ret
                  exact ⟨go _ (rightG_iff.2 ⟨by simp only; omega, by simp only; omega, by simp only; omega, by simp only; omega, by simp only; omega, by simp only; omega, by simp only; omega⟩), hb⟩
                · by_cases h9 : F + 2 * R ≤ M
                  · go_enter Try.func6, Try.ntmps6
                    go_wp2
                    go_ret
                    exact ⟨go _ (rightG_iff.2 ⟨by simp only; omega, by simp only; omega, by simp only; omega, by simp only; omega, by simp only; omega, by simp only; omega, by simp only; omega⟩), hb⟩
                  · go_enter Try.func6, Try.ntmps6
                    go_wp2
                    go_ret
                    exact ⟨go _ (rightG_f (fun h => by have := h.ap; simp only at this; omega)), hb⟩
end Go.Proofs.Ytgiippbjieecmab
