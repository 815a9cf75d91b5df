/- joistlaw03.tells: its end. -/
import Derived.Test.YtcelmnhdchfhiaaRAb
import Derived.Test.YtcelmnhdchfhiaaRowsL
namespace Go.Proofs.Ytcelmnhdchfhiaa
open Go.RowKit
set_option linter.unusedVariables false
/-- Numbers written over, in a row of the call's own. -/
theorem own_over {w : World} {B lb n c : Nat} {zs : List Int} (h : Own .i64 3 B w (some ⟨lb, 0, none⟩) n c zs) (k : Nat) (hk : k < n) :
    (∃ v, w.cell? ⟨lb, k, none⟩ = some v) ∧ w.frozen? ⟨lb, k, none⟩ = false ∧ Own .i64 3 B (w.setCell ⟨lb, k, none⟩ (.int .i64 (-7))) (some ⟨lb, 0, none⟩) n c (zs.set k (-7)) := by
  obtain ⟨cur, hcur, hcs, _⟩ := h.block
  have hcap := h.cap_le
  refine ⟨?_, frozen_of_row _ lb k cur 3 hcur, h.set k (-7)⟩
  rw [cell_of_row _ lb k cur 3 (0, 0) hcur]
  have hsz : k < cur.size := by omega
  exact ⟨cur[k], Array.getElem?_eq_getElem hsz⟩
end Go.Proofs.Ytcelmnhdchfhiaa
