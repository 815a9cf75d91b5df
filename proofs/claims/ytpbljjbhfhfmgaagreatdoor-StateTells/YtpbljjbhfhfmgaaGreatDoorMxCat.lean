/- Cat: these texts, one behind another. -/
import Derived.Test.YtpbljjbhfhfmgaaGreatDoorMxInfo
import Derived.Test.YtpbljjbhfhfmgaaGreatDoorMxTabA
import Derived.Lib.AppendZeros
/- slices.Grow of none, slices.Concat by their contracts. -/
namespace Go.Proofs.YtpbljjbhfhfmgaaGreatDoor
set_option maxRecDepth 100000
open Go.RowKit

/-- How many bytes the first rows have; which. -/
def tot (n : Nat → Nat) : Nat → Nat
  | 0 => 0
  | k + 1 => tot n k + n k
def cat (zs : Nat → List Int) : Nat → List Int
  | 0 => []
  | k + 1 => cat zs k ++ zs k
theorem tot_mono (n : Nat → Nat) {j k : Nat} (h : j ≤ k) : tot n j ≤ tot n k := by
  induction k with
  | zero => obtain rfl : j = 0 := by omega
            exact Nat.le_refl _
  | succ k ih =>
    by_cases e : j = k + 1
    · subst e; exact Nat.le_refl _
    · have := ih (by omega)
      simp only [tot]
      omega

def f2 {α : Type} (a b : α) : Nat → α
  | 0 => a
  | _ => b
end Go.Proofs.YtpbljjbhfhfmgaaGreatDoor
