/- Logs: which ones are right, which lines are theirs: plain facts. -/
import Derived.Test.YtfglbhdfdpnnfaaDoorRg
namespace Go.Proofs.YtfglbhdfdpnnfaaDoor
set_option maxRecDepth 100000
open Go.RowKit
set_option linter.unusedVariables false

structure Lg where
  mark : Int
  first : Int
  room : Int
structure Lg.Ok (g : Lg) : Prop where
  m : Rg g.mark
  f : Rg g.first
  r : Rg g.room
def inG (g : Lg) (line : Int) : Bool := decide (g.first ≤ line ∧ line < g.first + 2 * g.room)
def rightG (g : Lg) (n : Int) : Bool := decide (1 ≤ g.room ∧ g.room ≤ 4096 ∧ 0 ≤ g.first ∧ 0 ≤ g.mark ∧ g.mark < n ∧ g.first + 2 * g.room ≤ n ∧ ¬ (g.first ≤ g.mark ∧ g.mark < g.first + 2 * g.room))
structure RightG (g : Lg) (n : Int) : Prop where
  r0 : 1 ≤ g.room
  r1 : g.room ≤ 4096
  f0 : 0 ≤ g.first
  m0 : 0 ≤ g.mark
  m1 : g.mark < n
  f1 : g.first + 2 * g.room ≤ n
  ap : ¬ (g.first ≤ g.mark ∧ g.mark < g.first + 2 * g.room)
theorem rightG_iff {g : Lg} {n : Int} : rightG g n = true ↔ RightG g n := by
  constructor
  · intro h
    obtain ⟨a, b, c, d, e, f, i⟩ : 1 ≤ g.room ∧ g.room ≤ 4096 ∧ 0 ≤ g.first ∧ 0 ≤ g.mark ∧ g.mark < n ∧ g.first + 2 * g.room ≤ n ∧ ¬ (g.first ≤ g.mark ∧ g.mark < g.first + 2 * g.room) := of_decide_eq_true h
    exact ⟨a, b, c, d, e, f, i⟩
  · rintro ⟨a, b, c, d, e, f, i⟩
    exact decide_eq_true ⟨a, b, c, d, e, f, i⟩
theorem rightG_f {g : Lg} {n : Int} (h : ¬ RightG g n) : rightG g n = false := by
  cases e : rightG g n with
  | false => rfl
  | true => exact absurd (rightG_iff.1 e) h
theorem RightG.mono {g : Lg} {n m : Int} (h : RightG g n) (hm : n ≤ m) : RightG g m := ⟨h.r0, h.r1, h.f0, h.m0, by have := h.m1; omega, by have := h.f1; omega, h.ap⟩
def mineG (g : Lg) (line : Int) : Bool := rightG g 4096 && (decide (line = g.mark) || inG g line)
end Go.Proofs.YtfglbhdfdpnnfaaDoor
