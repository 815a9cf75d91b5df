/- The first numbers of a slice that can be read, and those behind them. -/
import Derived.Test.YtfnnelkipdajiaaDoorRow
namespace Go.Proofs.YtfnnelkipdajiaaDoor
set_option maxRecDepth 100000
open Go.RowKit
set_option linter.unusedVariables false
set_option linter.unusedSimpArgs false

/-- The first bytes of a slice that can be read. -/
theorem Sl.pre {k : IntKind} {w : World} {ao : Option Addr} {n cap : Nat} {zs : List Int} (h : Sl k w ao n cap zs) {j : Nat} (hj : j ≤ n) : Sl k w ao j cap (zs.take j) := by
  have hl := h.len
  have hr := h.room
  refine ⟨by simp; omega, by omega, h.void, fun hp => ?_⟩
  obtain ⟨b, off, e, hlt, hc⟩ := h.here (by omega)
  refine ⟨b, off, e, hlt, fun i hi => ?_⟩
  rw [hc i (by omega)]
  simp [List.getD, hi]
/-- The bytes behind them. -/
theorem Sl.post {k : IntKind} {w : World} {g o n cap : Nat} {zs : List Int} (h : Sl k w (some ⟨g, o, none⟩) n cap zs) {j : Nat} (hj : j ≤ n) : Sl k w (some ⟨g, o + j, none⟩) (n - j) (cap - j) (zs.drop j) := by
  have hl := h.len
  have hr := h.room
  refine ⟨by simp; omega, by omega, (by intro e; cases e), fun hp => ?_⟩
  obtain ⟨b, off, e, hlt, hc⟩ := h.here (by omega)
  cases e
  refine ⟨g, o + j, rfl, hlt, fun i hi => ?_⟩
  rw [Nat.add_assoc, hc (j + i) (by omega), getD_drop]
theorem Sl.nul {k : IntKind} {w : World} (ao : Option Addr) (ha : ao ≠ none) : Sl k w ao 0 0 [] := ⟨rfl, Nat.le_refl _, fun _ => rfl, fun h => absurd h (by omega)⟩
end Go.Proofs.YtfnnelkipdajiaaDoor
