/- Bytes laid one by one over a row. -/
import Derived.Test.YtclkooaepfedaaaDoorMath
import Derived.Laws.CopyOwn
namespace Go.Proofs.YtclkooaepfedaaaDoor
set_option maxRecDepth 100000
open Go.RowKit

theorem splice_step {Z Y : List Int} {p k : Nat} (hk : k < Y.length) (hp : p + Y.length ≤ Z.length) : (splice Z p (Y.take k)).set (p + k) (Y.getD k 0) = splice Z p (Y.take (k + 1)) := by
  unfold splice
  have h1 : (Y.take k).length = k := by simp; omega
  have h2 : (Y.take (k + 1)).length = k + 1 := by simp; omega
  have h3 : (Z.take p).length = p := by simp; omega
  rw [h1, h2, List.set_append_right _ _ (by omega), h3, show p + k - p = k by omega, List.set_append_right _ _ (by omega), h1, Nat.sub_self, take_succ' Y k hk, List.append_assoc]
  congr 2
  have h4 : Z.drop (p + k) = Z[p + k]'(by omega) :: Z.drop (p + (k + 1)) := by rw [List.drop_eq_getElem_cons (by omega)]; rfl
  rw [h4, List.set_cons_zero]
  simp [List.getD]
theorem splice_zero {Z Y : List Int} {p : Nat} : splice Z p (Y.take 0) = Z := by simp [splice]
end Go.Proofs.YtclkooaepfedaaaDoor
