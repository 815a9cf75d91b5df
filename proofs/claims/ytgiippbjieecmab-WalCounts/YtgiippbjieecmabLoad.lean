/- words.fits, holds and load by their contracts. -/
import Derived.Test.YtgiippbjieecmabRows
import Derived.Test.YtgiippbjieecmabMath
import Derived.WalkKit
import Derived.WalkLawsBesides
import Derived.Below
namespace Go.Proofs.Ytgiippbjieecmab
set_option maxRecDepth 100000
open Go.RowKit

theorem fits_any (n : Int) (w : World) :
    Calls Try.prog 35 #[.int .i64 n] w fun e w' => e = .returned (.bool (fitB n)) ∧ w = w' := by
  by_cases h : 0 ≤ n
  · by_cases h2 : n ≤ 4611686018427387903
    · go_enter Try.func35, Try.ntmps35
      go_wp2
      go_ret
      exact ⟨ret_bool (fitB_t h h2).symm, rfl⟩
    · go_enter Try.func35, Try.ntmps35
      go_wp2
      go_ret
      exact ⟨ret_bool (fitB_f (by omega)).symm, rfl⟩
  · go_enter Try.func35, Try.ntmps35
    go_wp2
    go_ret
    exact ⟨ret_bool (fitB_f (by omega)).symm, rfl⟩

end Go.Proofs.Ytgiippbjieecmab
