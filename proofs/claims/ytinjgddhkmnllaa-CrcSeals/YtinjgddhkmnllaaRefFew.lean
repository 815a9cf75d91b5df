/- joistref02.Open by its contract, where there are fewer than eight bytes. -/
import Derived.Test.YtinjgddhkmnllaaRow
import Derived.Test.YtinjgddhkmnllaaRows
import Derived.Deep.QuietTactic
import Derived.BigQuiet
namespace Go.Proofs.Ytinjgddhkmnllaa
open Go.RowKit

theorem refopen_few (ao : Option Addr) (n cap : Nat) (w : World) (h8 : ¬ 8 ≤ n) :
    Calls Try.prog 17 #[.slice ao n cap] w fun e w' => e = .returned (.tuple #[.slice none 0 0, .bool false]) ∧ Below w.heap.size w w' := by
  have h1 : (n : Int) - 8 < 0 := by omega
  have h2 : decide ((n : Int) - 8 < 0) = true := by simpa using h1
  go_enter Try.func17, Try.ntmps17
  go_wp2
  go_quiet (fail)
  go_wp2
  go_ret2
  exact ⟨rfl, below_drewN (Below.refl _ _) _⟩
end Go.Proofs.Ytinjgddhkmnllaa
