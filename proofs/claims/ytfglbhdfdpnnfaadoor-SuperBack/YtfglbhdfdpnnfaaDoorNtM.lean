/- How many nodes a tree has: plain facts. -/
import Derived.Test.YtfglbhdfdpnnfaaDoorMath
namespace Go.Proofs.YtfglbhdfdpnnfaaDoor
set_option maxRecDepth 100000
set_option linter.unusedVariables false
set_option linter.unusedSimpArgs false

/-- How many nodes hold so many things. -/
def abv (n : Nat) : Nat := max 1 ((n + 6) / 7)
theorem abv_lt {n : Nat} (h : ¬ n ≤ 1) : abv n < n := by unfold abv; omega
/-- The nodes of a level of n, and of those above it. -/
def ndS (n : Nat) : Nat := if h : n ≤ 1 then n else n + ndS (abv n)
  termination_by n
  decreasing_by exact abv_lt h
theorem ndS_le {n : Nat} (h : n ≤ 1) : ndS n = n := by rw [ndS, dif_pos h]
theorem ndS_gt {n : Nat} (h : ¬ n ≤ 1) : ndS n = n + ndS (abv n) := by rw [ndS, dif_neg h]
def ntN (n : Int) : Int := if n < 0 then 0 else (ndS (abv n.toNat) : Nat)
theorem nt_neg {n : Int} (h : n < 0) : ntN n = 0 := if_pos h
theorem nt_nat (n : Nat) : ntN n = (ndS (abv n) : Nat) := by
  unfold ntN
  rw [if_neg (by omega)]
  rfl
theorem abv_step (n : Nat) : abv (n + 1) = abv n ∨ abv (n + 1) = abv n + 1 := by unfold abv; omega
theorem abv_pos (n : Nat) : 1 ≤ abv n := by unfold abv; omega
theorem ndS_two : ∀ (m n : Nat), n ≤ m → ndS n ≤ 2 * n := by
  intro m
  induction m with
  | zero =>
    intro n h
    rw [ndS_le (by omega)]
    omega
  | succ m ih =>
    intro n h
    by_cases c : n ≤ 1
    · rw [ndS_le c]; omega
    · rw [ndS_gt c]
      have h1 := abv_lt c
      have h2 := ih (abv n) (by omega)
      have h3 : 2 * abv n ≤ n := by unfold abv; omega
      omega
theorem nt_64 : ntN 64 = 13 := by
  rw [show (64 : Int) = ((64 : Nat) : Int) by rfl, nt_nat, show abv 64 = 10 by decide, ndS_gt (by decide), show abv 10 = 2 by decide, ndS_gt (by decide), show abv 2 = 1 by decide, ndS_le (by decide)]
  rfl
end Go.Proofs.YtfglbhdfdpnnfaaDoor
