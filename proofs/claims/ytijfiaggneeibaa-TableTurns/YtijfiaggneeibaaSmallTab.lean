/- joistlaw08.small by its contract. -/
import Derived.Test.YtijfiaggneeibaaTabF
namespace Go.Proofs.Ytijfiaggneeibaa
set_option maxRecDepth 100000
open Go.RowKit
set_option linter.unusedVariables false
set_option linter.unusedSimpArgs false
set_option maxRecDepth 100000

def smL : List Slt := [⟨0, false, false, 0, 0⟩, ⟨0, false, false, 0, 0⟩]
def smS : Slt := ⟨0, false, false, 4, 5⟩
def smM : List Slt := [⟨0, true, false, 4, 5⟩, ⟨0, false, false, 0, 0⟩]
def smN : List Slt := [⟨1, false, false, 0, 0⟩, ⟨0, false, false, 0, 0⟩]
theorem smS_rgs : RgS smS := ⟨by unfold Rg; decide, by unfold Rg; decide, by unfold Rg; decide⟩
theorem small_new (w : World) : Calls Try.prog 10 #[.int .i64 2] w fun e w' => ∃ ao c, e = .returned (.tuple #[.slice ao 2 c, .int .i64 0]) ∧ OwT w.heap.size w' ao 2 c smL ∧ Below w.heap.size w w' := by
  refine (new_any 2 w).mono ?_
  rintro e w' ⟨ao, m, c, rfl, ho, hb⟩
  have e1 : nwE 2 = 0 := by decide
  have e2 : nwL 2 = smL := by decide
  rw [e2] at ho
  rw [e1]
  obtain rfl : 2 = m := ho.len
  exact ⟨ao, c, rfl, ho, hb⟩
theorem small_take (ao : Option Addr) (c : Nat) (w : World) (h : Tb w ao 2 c smL) (hc : c ≤ 9223372036854775807) : Calls Try.prog 22 #[.slice ao 2 c, .agg #[.int .i64 0, .bool false, .bool false, .int .i64 4, .int .i64 5]] w fun e w' => ∃ bo c, e = .returned (.tuple #[.slice bo 2 c, .agg #[.int .i64 0, .int .i64 0], .int .i64 0]) ∧ OwT w.heap.size w' bo 2 c smM ∧ Below w.heap.size w w' := by
  refine (take_tb ao 2 c smL smS w h smS_rgs hc).mono ?_
  rintro e w' ⟨bo, m, c, rfl, ho, hb⟩
  have e1 : tkE smL smS = 0 := by decide
  have e2 : tkL smL smS = smM := by decide
  have e3 : tkI smL smS = 0 := by decide
  have e4 : tkG smL smS = 0 := by decide
  rw [e2] at ho
  rw [e1, e3, e4]
  obtain rfl : 2 = m := ho.len
  exact ⟨bo, c, rfl, ho, hb⟩
theorem small_free (ao : Option Addr) (c : Nat) (w : World) (h : Tb w ao 2 c smM) (hc : c ≤ 9223372036854775807) : Calls Try.prog 23 #[.slice ao 2 c, .int .i64 0] w fun e w' => ∃ bo c, e = .returned (.tuple #[.slice bo 2 c, .int .i64 0]) ∧ OwT w.heap.size w' bo 2 c smN ∧ Below w.heap.size w w' := by
  refine (free_tb ao 2 c smM 0 w h hc).mono ?_
  rintro e w' ⟨bo, m, c, rfl, ho, hb⟩
  have e1 : frE smM 0 = 0 := by decide
  have e2 : frL smM 0 = smN := by decide
  rw [e2] at ho
  rw [e1]
  obtain rfl : 2 = m := ho.len
  exact ⟨bo, c, rfl, ho, hb⟩
theorem small_again (ao : Option Addr) (c : Nat) (w : World) (h : Tb w ao 2 c smN) (hc : c ≤ 9223372036854775807) : Calls Try.prog 22 #[.slice ao 2 c, .agg #[.int .i64 0, .bool false, .bool false, .int .i64 4, .int .i64 5]] w fun e w' => ∃ bo m c, e = .returned (.tuple #[.slice bo m c, .agg #[.int .i64 0, .int .i64 1], .int .i64 0]) ∧ Below w.heap.size w w' := by
  refine (take_tb ao 2 c smN smS w h smS_rgs hc).mono ?_
  rintro e w' ⟨bo, m, c, rfl, ho, hb⟩
  have e1 : tkE smN smS = 0 := by decide
  have e3 : tkI smN smS = 0 := by decide
  have e4 : tkG smN smS = 1 := by decide
  rw [e1, e3, e4]
  exact ⟨bo, m, c, rfl, hb⟩
theorem small_find (ao : Option Addr) (c : Nat) (w : World) (h : Tb w ao 2 c smM) : Calls Try.prog 12 #[.slice ao 2 c, .agg #[.int .i64 0, .int .i64 0]] w fun e w' => e = .returned (.tuple #[.int .i64 0, .bool true]) ∧ Below w.heap.size w w' := by
  have := find_tb ao 2 c smM 0 0 w h (by omega)
  rwa [show fnI smM 0 0 = 0 by decide, show fnB smM 0 0 = true by decide] at this
theorem small_gone (ao : Option Addr) (c : Nat) (w : World) (h : Tb w ao 2 c smN) : Calls Try.prog 12 #[.slice ao 2 c, .agg #[.int .i64 0, .int .i64 0]] w fun e w' => e = .returned (.tuple #[.int .i64 0, .bool false]) ∧ Below w.heap.size w w' := by
  have := find_tb ao 2 c smN 0 0 w h (by omega)
  rwa [show fnI smN 0 0 = 0 by decide, show fnB smN 0 0 = false by decide] at this
theorem Bx.more {w : World} {b : Nat} {I G : Int} (h : Bx w b I G) (o : Obj) : Bx (w.alloc o) b I G := h.kept ((Below.refl _ _).alloc (Nat.le_refl _) _)
theorem nextA' {w a : World} (h : Below w.heap.size w a) (o : Obj) : Below w.heap.size w (a.alloc o) := h.alloc h.size o
theorem below_more (w : World) (o : Obj) : Below w.heap.size w (w.alloc o) := (Below.refl _ _).alloc (Nat.le_refl _) _
set_option maxHeartbeats 1000000 in
theorem small_any (w : World) : Calls Try.prog 9 #[] w fun e w' => e = .returned (.bool true) ∧ Below w.heap.size w w' := by
  go_enter Try.func9, Try.ntmps9
  go_wp2_with (first
    | (go_at_call 10; with_reducible refine (small_new _).mono ?_; rintro e w1 ⟨a1, k1, rfl, ho1, hb1⟩)
    | (go_at_call 22; with_reducible refine (small_take a1 k1 w1 ho1.tb ho1.cap_le.2).mono ?_; rintro e w2 ⟨a2, k2, rfl, ho2, hb2⟩;
       have b2 := nextA' (next hb1 hb2) (.cells #[.int .i64 0, .int .i64 0] 24); have o2 := ho2.below (below_more w2 (.cells #[.int .i64 0, .int .i64 0] 24)); have x2 := bx_new w2 0 0; obtain ⟨y0, y1, _, _⟩ := x2.cells)
    | (go_at_call 12; with_reducible refine (small_find a2 k2 _ o2.tb).mono ?_; rintro e w3 ⟨rfl, hb3⟩; have b3 := next b2 hb3; have o3 := o2.below hb3; have x3 := x2.kept hb3)
    | (go_at_call 23; with_reducible refine (small_free a2 k2 w3 o3.tb o3.cap_le.2).mono ?_; rintro e w4 ⟨a4, k4, rfl, ho4, hb4⟩; have b4 := next b3 hb4; have o4 := o3.below hb4; have x4 := x3.kept hb4; obtain ⟨z0, z1, _, _⟩ := x4.cells)
    | (go_at_call 12; with_reducible refine (small_gone a4 k4 w4 ho4.tb).mono ?_; rintro e w5 ⟨rfl, hb5⟩; have b5 := next b4 hb5; have o5 := o4.below hb5; have x5 := x4.kept hb5; have p5 := ho4.below hb5)
    | (go_at_call 22; with_reducible refine (small_again a4 k4 w5 p5.tb p5.cap_le.2).mono ?_; rintro e w6 ⟨a6, m6, k6, rfl, hb6⟩;
       have b6 := nextA' (next b5 hb6) (.cells #[.int .i64 0, .int .i64 1] 24); have o6 := (o5.below hb6).below (below_more w6 (.cells #[.int .i64 0, .int .i64 1] 24)); have x6 := (x5.kept hb6).more (.cells #[.int .i64 0, .int .i64 1] 24);
       obtain ⟨u0, u1, _, _⟩ := x6.cells; obtain ⟨v0, v1, _, _⟩ := (bx_new w6 0 1).cells; obtain ⟨g, rfl, _, _⟩ := o6.shape (by omega); have s6 := o6.tb.at (Below.refl _ _) (i := 0) (by omega); have s63 := s6.c3))
  go_ret
  exact ⟨rfl, b6⟩
end Go.Proofs.Ytijfiaggneeibaa
