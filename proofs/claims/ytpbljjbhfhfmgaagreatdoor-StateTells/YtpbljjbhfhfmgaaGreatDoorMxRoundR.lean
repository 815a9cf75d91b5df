/- RoundR: these texts, one behind another. -/
import Derived.RangeFuncNested
import Derived.RangeFuncBound
import Derived.RangeFuncCalls
import Derived.RangeFuncLeaves
import Derived.Shelf.Abstract
import Derived.WalkKit
import Derived.OwnWalkIn
import Derived.TacticsInMore
import Derived.LoopNIn
import Derived.LoopIn
import Derived.OrdersIn
import Derived.OrdersHeld
import Derived.Deep.RegionHeld
import Derived.Test.YtpbljjbhfhfmgaaGreatDoorMxGapA
/- A range over slices.Backward: what a round of the loop may do; the iterator by its contract. -/
namespace Go.Proofs.YtpbljjbhfhfmgaaGreatDoor
set_option maxRecDepth 100000
open Go.RowKit Go.Shelf
set_option linter.unusedVariables false
set_option linter.unusedSimpArgs false
set_option maxRecDepth 100000

/-- An operation that is no defer statement is in a round what it is everywhere. -/
theorem op_round {l n : Nat} {P : Program} {o : Oper} {a : Act} {w : World} {K : Act → World → Prop} {Q : Exit → Act → World → Prop} (hd : ∀ c, o.op ≠ .defer c) (h : o.wp P a w K Q) : o.wpIn (Fence.wide.inRound l) n P a w K Q := by
  unfold Oper.wp at h
  unfold Oper.wpIn
  refine ⟨fun f _ => trivial, ?_⟩
  rw [Oper.semAt_eq _ _ _ hd]
  generalize (execOp a.eval o).run P w = r at *
  cases r with
  | ok x w' =>
    cases x
    case value v => exact h
    case skip => exact h
    case defer d => exact h
    case enter f args => exact ⟨(by intro e; cases e), CallsIn.inRound l (callsIn_wide.2 h)⟩
    case row row args =>
      refine ⟨(by intro e; cases e), fun c cs _ => ?_⟩
      obtain ⟨v, w'', hR, hs⟩ := h c cs
      exact ⟨v, w'', hR, stepsIn_wide.2 hs⟩
    all_goals exact h.elim
  | halt x w' =>
    cases x
    case panic v => exact h
    all_goals exact h.elim
theorem any_round {l n : Nat} {P : Program} {md : Region.Mode} {ops : Array Oper} {Q : Exit → Act → World → Prop} (hd : ∀ (i : Nat) (o : Oper), ops[i]? = some o → ∀ c, o.op ≠ .defer c) (hQ : ¬ LetsOut Q) :
    ∀ (fuel : Nat) (listed : Array Bool) (a : Act) (w : World), wpAny P md ops Q fuel listed a w → wpAnyIn (Fence.wide.inRound l) n P md ops Q fuel listed a w
  | 0, _, _, _, h => h
  | fuel + 1, listed, a, w, h => by
    refine ⟨h.1, fun i hi => ?_⟩
    have h1 := h.2 i hi
    unfold wpOp at h1
    unfold wpOpIn
    cases ho : ops[i]? with
    | none => rw [ho] at h1; exact any_round hd hQ fuel _ _ _ h1
    | some o =>
      rw [ho] at h1
      simp only at h1 ⊢
      by_cases hw : Region.wanted o (yielded ops a.tmps) = true
      · rw [if_pos hw] at h1 ⊢
        rcases h1 with h1 | h1
        · exact op_round (hd i o ho) (Oper.wp_mono (fun a w => any_round hd hQ fuel _ a w) h1)
        · exact absurd h1.2 hQ
      · rw [if_neg hw] at h1 ⊢
        exact ⟨fun _ _ => trivial, any_round hd hQ fuel _ _ _ h1⟩
/-- A region that draws its order, in a round: walked as everywhere. -/
theorem region_round {l n id : Nat} {P : Program} {ops : Array Oper} {Q : Exit → Act → World → Prop} {a : Act} {w : World} {S : World → Prop} (hm : P.follows .mixedOrders = true) (hd : ∀ (i : Nat) (o : Oper), ops[i]? = some o → ∀ c, o.op ≠ .defer c) (hQ : ¬ LetsOut Q) (hS : S w.drew)
    (h : S w.drew → wpAnyH P .any ops Q S ops.size (Array.replicate ops.size false) a w.drew) : (Code.region id ops true).wpIn (Fence.wide.inRound l) n P Q a w :=
  wpIn_region_any hm (any_round hd hQ _ _ _ _ (wpAny_of_held _ _ _ _ (h hS)))

/-- All indexes, the last one first. -/
def dnL (n : Nat) : List (Fin n) := (List.finRange n).reverse
theorem dnL_length (n : Nat) : (dnL n).length = n := by simp [dnL]
theorem dnL_take {n k : Nat} (h : k < n) : (dnL n).take (k + 1) = (dnL n).take k ++ [⟨n - 1 - k, by omega⟩] := by
  rw [List.take_add_one]
  congr 1
  rw [List.getElem?_eq_getElem (by rw [dnL_length]; exact h)]
  simp [dnL]
/-- What one is handed in a round. -/
def encB {n : Nat} (g : List Spn) (x : Fin n) : Array Value := #[.int .i64 (x.1 : Int), .agg #[.int .i64 (pa g x.1).pos, .int .i64 (pa g x.1).sz]]
/-- The variable and the row that the iterator reads stay as they are. -/
structure KpB (bx : Nat) (ao : Option Addr) (W W' : World) : Prop where
  bx : W'.heap[bx]? = W.heap[bx]?
  row : ∀ a, ao = some a → W'.heap[a.block]? = W.heap[a.block]?
theorem KpB.trans {bx : Nat} {ao : Option Addr} {A B C : World} (h : KpB bx ao A B) (k : KpB bx ao B C) : KpB bx ao A C := ⟨k.bx.trans h.bx, fun a e => (k.row a e).trans (h.row a e)⟩
theorem KpB.refl (bx : Nat) (ao : Option Addr) (A : World) : KpB bx ao A A := ⟨rfl, fun _ _ => rfl⟩
theorem KpB.put {bx : Nat} {ao : Option Addr} {w : World} (h0 : bx < w.heap.size) (h1 : ∀ a, ao = some a → a.block < w.heap.size) (W : World) (l : Nat) (o o' : Obj) (hl : w.heap.size ≤ l) (_ : W.heap[l]? = some o) (_ : o.isCells = false) (_ : o.isWalk = false) : KpB bx ao W (W.putObj l o') :=
  ⟨World.putObj_heap_other (by omega), fun a e => World.putObj_heap_other (by have := h1 a e; omega)⟩
attribute [local go_sem] Oper.semAt_some
end Go.Proofs.YtpbljjbhfhfmgaaGreatDoor
