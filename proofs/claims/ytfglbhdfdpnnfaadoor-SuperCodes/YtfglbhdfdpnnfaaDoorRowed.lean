/- Rows that lie in blocks of their own: what was lent among them. -/
import Derived.Test.YtfglbhdfdpnnfaaDoorLent
import Derived.Test.YtfglbhdfdpnnfaaDoorOwned
namespace Go.Proofs.YtfglbhdfdpnnfaaDoor
set_option maxRecDepth 100000
open Go.RowKit

theorem Lentd.rowd {w : World} {g n : Nat} {zs : List Int} (h : Lentd w g zs) (hn : zs.length = n) (hm : n ≤ 140737488355328) : Rowd w g (some ⟨g, 0, none⟩) n (n + 1) g :=
  ⟨⟨by omega, by omega⟩, fun _ => ⟨rfl, Nat.le_refl _, h.lt⟩, fun _ => ⟨_, h, by simp [hn]⟩⟩
theorem rowd_nil (w : World) (B : Nat) : Rowd w B none 0 0 0 := ⟨⟨Nat.le_refl _, by omega⟩, fun h => absurd h (by omega), fun h => absurd h (by omega)⟩

theorem sz {w a b : World} (h : Below w.heap.size w a) (k : Below a.heap.size a b) : w.heap.size ≤ b.heap.size := Nat.le_trans h.size k.size
theorem ap {w w' : World} {B B' : Nat} {a a' : Option Addr} {n n' c c' g g' : Nat} (h : Rowd w B a n c g) (k : Rowd w' B' a' n' c' g') (hc : 0 < c) (hc' : 0 < c') (hw : w.heap.size ≤ B') : g ≠ g' := by
  have h1 := (h.spot hc).2.2
  have h2 := (k.spot hc').2.1
  omega
end Go.Proofs.YtfglbhdfdpnnfaaDoor
