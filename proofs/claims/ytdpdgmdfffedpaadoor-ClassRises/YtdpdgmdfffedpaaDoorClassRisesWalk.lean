/- 'ClassRises' walked: classes rise with the bytes; a slab of greater cells has no more of them. -/
import Derived.Test.YtdpdgmdfffedpaaDoorSmallCls
namespace Go.Proofs.YtdpdgmdfffedpaaDoor
set_option maxRecDepth 100000
open Go.RowKit
set_option linter.unusedVariables false
set_option linter.unusedSimpArgs false
set_option maxRecDepth 100000

theorem clN_rises {n : Int} (h0 : 1 ≤ n) (h1 : n + 1 ≤ 120) : clN n ≤ clN (n + 1) ∧ clN (n + 1) ≤ clN n + 1 := by
  simp only [clN]
  repeat' split
  all_goals omega
theorem ceN_falls {c : Int} (h0 : 0 ≤ c) (h1 : c + 1 < 6) : ceN (c + 1) ≤ ceN c := by
  rcases (show c = 0 ∨ c = 1 ∨ c = 2 ∨ c = 3 ∨ c = 4 by omega) with rfl | rfl | rfl | rfl | rfl <;> decide

theorem rises_b_o (w : World) (n a b p q : Int) (t : Bool) (f : Int) (c x y : Int) (cS : Calls Tryd.prog 7 #[] w fun e w' => e = .returned (.bool true) ∧ w = w')
    (cO : Calls Tryd.prog 8 #[.int .i64 n] w fun e w' => e = .returned (.tuple #[.int .i64 a, .bool false]) ∧ w = w')
    (cU : Calls Tryd.prog 8 #[.int .i64 (n + 1)] w fun e w' => e = .returned (.tuple #[.int .i64 b, .bool t]) ∧ w = w')
    (cP : Calls Tryd.prog 14 #[.int .i64 n] w fun e w' => e = .returned (.tuple #[.int .i64 p, .int .i64 1]) ∧ w = w')
    (cQ : Calls Tryd.prog 14 #[.int .i64 (n + 1)] w fun e w' => e = .returned (.tuple #[.int .i64 q, .int .i64 f]) ∧ w = w')
    (c1 : Calls Tryd.prog 12 #[.int .i64 c] w fun e w' => e = .returned (.tuple #[.int .i64 0, .int .i64 1]) ∧ w = w')
    (n1 : n < 1) (n2 : -1099511627776 ≤ n)  :
    Calls Tryd.prog 6 #[.int .i64 n, .int .i64 c] w fun e w' => e = .returned (.bool true) ∧ Below w.heap.size w w' := by
  have x1 : IntKind.i64.wrap (n + 1) = n + 1 := IntWalk.i64_in _ ⟨by omega, by omega⟩
  go_enter Tryd.func6, Tryd.ntmps6
  go_wp2_with (first
    | (go_at_call 7; with_reducible refine cS.mono ?_; rintro e w' ⟨rfl, rfl⟩)
    | (go_at_call 8; with_reducible refine cO.mono ?_; rintro e w' ⟨rfl, rfl⟩)
    | (go_at_call 8; with_reducible refine cU.mono ?_; rintro e w' ⟨rfl, rfl⟩)
    | (go_at_call 14; with_reducible refine cP.mono ?_; rintro e w' ⟨rfl, rfl⟩)
    | (go_at_call 14; with_reducible refine cQ.mono ?_; rintro e w' ⟨rfl, rfl⟩)
    | (go_at_call 12; with_reducible refine c1.mono ?_; rintro e w' ⟨rfl, rfl⟩))
  all_goals first | (go_ret; exact ⟨rfl, Below.refl _ _⟩) | (exfalso; omega)
theorem rises_b_e (w : World) (n a b p q : Int) (t : Bool) (f : Int) (x y : Int) (cS : Calls Tryd.prog 7 #[] w fun e w' => e = .returned (.bool true) ∧ w = w')
    (cO : Calls Tryd.prog 8 #[.int .i64 n] w fun e w' => e = .returned (.tuple #[.int .i64 a, .bool false]) ∧ w = w')
    (cU : Calls Tryd.prog 8 #[.int .i64 (n + 1)] w fun e w' => e = .returned (.tuple #[.int .i64 b, .bool t]) ∧ w = w')
    (cP : Calls Tryd.prog 14 #[.int .i64 n] w fun e w' => e = .returned (.tuple #[.int .i64 p, .int .i64 1]) ∧ w = w')
    (cQ : Calls Tryd.prog 14 #[.int .i64 (n + 1)] w fun e w' => e = .returned (.tuple #[.int .i64 q, .int .i64 f]) ∧ w = w')
    (c1 : Calls Tryd.prog 12 #[.int .i64 5] w fun e w' => e = .returned (.tuple #[.int .i64 x, .int .i64 0]) ∧ w = w')
    (c2 : Calls Tryd.prog 12 #[.int .i64 6] w fun e w' => e = .returned (.tuple #[.int .i64 y, .int .i64 1]) ∧ w = w')
    (n1 : n < 1) (n2 : -1099511627776 ≤ n) (x0 : 1 ≤ x) (x1 : x ≤ 14) :
    Calls Tryd.prog 6 #[.int .i64 n, .int .i64 5] w fun e w' => e = .returned (.bool true) ∧ Below w.heap.size w w' := by
  have x1 : IntKind.i64.wrap (n + 1) = n + 1 := IntWalk.i64_in _ ⟨by omega, by omega⟩
  go_enter Tryd.func6, Tryd.ntmps6
  go_wp2_with (first
    | (go_at_call 7; with_reducible refine cS.mono ?_; rintro e w' ⟨rfl, rfl⟩)
    | (go_at_call 8; with_reducible refine cO.mono ?_; rintro e w' ⟨rfl, rfl⟩)
    | (go_at_call 8; with_reducible refine cU.mono ?_; rintro e w' ⟨rfl, rfl⟩)
    | (go_at_call 14; with_reducible refine cP.mono ?_; rintro e w' ⟨rfl, rfl⟩)
    | (go_at_call 14; with_reducible refine cQ.mono ?_; rintro e w' ⟨rfl, rfl⟩)
    | (go_at_call 12; with_reducible refine c1.mono ?_; rintro e w' ⟨rfl, rfl⟩)
    | (go_at_call 12; with_reducible refine c2.mono ?_; rintro e w' ⟨rfl, rfl⟩))
  all_goals first | (go_ret; exact ⟨rfl, Below.refl _ _⟩) | (exfalso; omega)
theorem rises_b_i (w : World) (n a b p q : Int) (t : Bool) (f : Int) (c x y : Int) (cS : Calls Tryd.prog 7 #[] w fun e w' => e = .returned (.bool true) ∧ w = w')
    (cO : Calls Tryd.prog 8 #[.int .i64 n] w fun e w' => e = .returned (.tuple #[.int .i64 a, .bool false]) ∧ w = w')
    (cU : Calls Tryd.prog 8 #[.int .i64 (n + 1)] w fun e w' => e = .returned (.tuple #[.int .i64 b, .bool t]) ∧ w = w')
    (cP : Calls Tryd.prog 14 #[.int .i64 n] w fun e w' => e = .returned (.tuple #[.int .i64 p, .int .i64 1]) ∧ w = w')
    (cQ : Calls Tryd.prog 14 #[.int .i64 (n + 1)] w fun e w' => e = .returned (.tuple #[.int .i64 q, .int .i64 f]) ∧ w = w')
    (c1 : Calls Tryd.prog 12 #[.int .i64 c] w fun e w' => e = .returned (.tuple #[.int .i64 x, .int .i64 0]) ∧ w = w')
    (c2 : Calls Tryd.prog 12 #[.int .i64 (c + 1)] w fun e w' => e = .returned (.tuple #[.int .i64 y, .int .i64 0]) ∧ w = w')
    (n1 : n < 1) (n2 : -1099511627776 ≤ n) (c0 : 0 ≤ c) (c5 : c < 5) (x0 : 1 ≤ x) (x1 : x ≤ 14) (y0 : 0 ≤ y) (y1 : y ≤ x) :
    Calls Tryd.prog 6 #[.int .i64 n, .int .i64 c] w fun e w' => e = .returned (.bool true) ∧ Below w.heap.size w w' := by
  have x1 : IntKind.i64.wrap (n + 1) = n + 1 := IntWalk.i64_in _ ⟨by omega, by omega⟩
  have x3 : IntKind.i64.wrap (c + 1) = c + 1 := IntWalk.i64_in _ ⟨by omega, by omega⟩
  go_enter Tryd.func6, Tryd.ntmps6
  go_wp2_with (first
    | (go_at_call 7; with_reducible refine cS.mono ?_; rintro e w' ⟨rfl, rfl⟩)
    | (go_at_call 8; with_reducible refine cO.mono ?_; rintro e w' ⟨rfl, rfl⟩)
    | (go_at_call 8; with_reducible refine cU.mono ?_; rintro e w' ⟨rfl, rfl⟩)
    | (go_at_call 14; with_reducible refine cP.mono ?_; rintro e w' ⟨rfl, rfl⟩)
    | (go_at_call 14; with_reducible refine cQ.mono ?_; rintro e w' ⟨rfl, rfl⟩)
    | (go_at_call 12; with_reducible refine c1.mono ?_; rintro e w' ⟨rfl, rfl⟩)
    | (go_at_call 12; with_reducible refine c2.mono ?_; rintro e w' ⟨rfl, rfl⟩))
  all_goals first | (go_ret; exact ⟨rfl, Below.refl _ _⟩) | (exfalso; omega)
theorem rises_g_o (w : World) (n a b p q : Int) (t : Bool) (f : Int) (c x y : Int) (cS : Calls Tryd.prog 7 #[] w fun e w' => e = .returned (.bool true) ∧ w = w')
    (cO : Calls Tryd.prog 8 #[.int .i64 n] w fun e w' => e = .returned (.tuple #[.int .i64 a, .bool false]) ∧ w = w')
    (cU : Calls Tryd.prog 8 #[.int .i64 (n + 1)] w fun e w' => e = .returned (.tuple #[.int .i64 b, .bool t]) ∧ w = w')
    (cP : Calls Tryd.prog 14 #[.int .i64 n] w fun e w' => e = .returned (.tuple #[.int .i64 p, .int .i64 1]) ∧ w = w')
    (cQ : Calls Tryd.prog 14 #[.int .i64 (n + 1)] w fun e w' => e = .returned (.tuple #[.int .i64 q, .int .i64 f]) ∧ w = w')
    (c1 : Calls Tryd.prog 12 #[.int .i64 c] w fun e w' => e = .returned (.tuple #[.int .i64 0, .int .i64 1]) ∧ w = w')
    (n1 : 2048 < n) (n2 : n ≤ 1099511627776)  :
    Calls Tryd.prog 6 #[.int .i64 n, .int .i64 c] w fun e w' => e = .returned (.bool true) ∧ Below w.heap.size w w' := by
  have x1 : IntKind.i64.wrap (n + 1) = n + 1 := IntWalk.i64_in _ ⟨by omega, by omega⟩
  go_enter Tryd.func6, Tryd.ntmps6
  go_wp2_with (first
    | (go_at_call 7; with_reducible refine cS.mono ?_; rintro e w' ⟨rfl, rfl⟩)
    | (go_at_call 8; with_reducible refine cO.mono ?_; rintro e w' ⟨rfl, rfl⟩)
    | (go_at_call 8; with_reducible refine cU.mono ?_; rintro e w' ⟨rfl, rfl⟩)
    | (go_at_call 14; with_reducible refine cP.mono ?_; rintro e w' ⟨rfl, rfl⟩)
    | (go_at_call 14; with_reducible refine cQ.mono ?_; rintro e w' ⟨rfl, rfl⟩)
    | (go_at_call 12; with_reducible refine c1.mono ?_; rintro e w' ⟨rfl, rfl⟩))
  all_goals first | (go_ret; exact ⟨rfl, Below.refl _ _⟩) | (exfalso; omega)
theorem rises_g_e (w : World) (n a b p q : Int) (t : Bool) (f : Int) (x y : Int) (cS : Calls Tryd.prog 7 #[] w fun e w' => e = .returned (.bool true) ∧ w = w')
    (cO : Calls Tryd.prog 8 #[.int .i64 n] w fun e w' => e = .returned (.tuple #[.int .i64 a, .bool false]) ∧ w = w')
    (cU : Calls Tryd.prog 8 #[.int .i64 (n + 1)] w fun e w' => e = .returned (.tuple #[.int .i64 b, .bool t]) ∧ w = w')
    (cP : Calls Tryd.prog 14 #[.int .i64 n] w fun e w' => e = .returned (.tuple #[.int .i64 p, .int .i64 1]) ∧ w = w')
    (cQ : Calls Tryd.prog 14 #[.int .i64 (n + 1)] w fun e w' => e = .returned (.tuple #[.int .i64 q, .int .i64 f]) ∧ w = w')
    (c1 : Calls Tryd.prog 12 #[.int .i64 5] w fun e w' => e = .returned (.tuple #[.int .i64 x, .int .i64 0]) ∧ w = w')
    (c2 : Calls Tryd.prog 12 #[.int .i64 6] w fun e w' => e = .returned (.tuple #[.int .i64 y, .int .i64 1]) ∧ w = w')
    (n1 : 2048 < n) (n2 : n ≤ 1099511627776) (x0 : 1 ≤ x) (x1 : x ≤ 14) :
    Calls Tryd.prog 6 #[.int .i64 n, .int .i64 5] w fun e w' => e = .returned (.bool true) ∧ Below w.heap.size w w' := by
  have x1 : IntKind.i64.wrap (n + 1) = n + 1 := IntWalk.i64_in _ ⟨by omega, by omega⟩
  go_enter Tryd.func6, Tryd.ntmps6
  go_wp2_with (first
    | (go_at_call 7; with_reducible refine cS.mono ?_; rintro e w' ⟨rfl, rfl⟩)
    | (go_at_call 8; with_reducible refine cO.mono ?_; rintro e w' ⟨rfl, rfl⟩)
    | (go_at_call 8; with_reducible refine cU.mono ?_; rintro e w' ⟨rfl, rfl⟩)
    | (go_at_call 14; with_reducible refine cP.mono ?_; rintro e w' ⟨rfl, rfl⟩)
    | (go_at_call 14; with_reducible refine cQ.mono ?_; rintro e w' ⟨rfl, rfl⟩)
    | (go_at_call 12; with_reducible refine c1.mono ?_; rintro e w' ⟨rfl, rfl⟩)
    | (go_at_call 12; with_reducible refine c2.mono ?_; rintro e w' ⟨rfl, rfl⟩))
  all_goals first | (go_ret; exact ⟨rfl, Below.refl _ _⟩) | (exfalso; omega)
theorem rises_g_i (w : World) (n a b p q : Int) (t : Bool) (f : Int) (c x y : Int) (cS : Calls Tryd.prog 7 #[] w fun e w' => e = .returned (.bool true) ∧ w = w')
    (cO : Calls Tryd.prog 8 #[.int .i64 n] w fun e w' => e = .returned (.tuple #[.int .i64 a, .bool false]) ∧ w = w')
    (cU : Calls Tryd.prog 8 #[.int .i64 (n + 1)] w fun e w' => e = .returned (.tuple #[.int .i64 b, .bool t]) ∧ w = w')
    (cP : Calls Tryd.prog 14 #[.int .i64 n] w fun e w' => e = .returned (.tuple #[.int .i64 p, .int .i64 1]) ∧ w = w')
    (cQ : Calls Tryd.prog 14 #[.int .i64 (n + 1)] w fun e w' => e = .returned (.tuple #[.int .i64 q, .int .i64 f]) ∧ w = w')
    (c1 : Calls Tryd.prog 12 #[.int .i64 c] w fun e w' => e = .returned (.tuple #[.int .i64 x, .int .i64 0]) ∧ w = w')
    (c2 : Calls Tryd.prog 12 #[.int .i64 (c + 1)] w fun e w' => e = .returned (.tuple #[.int .i64 y, .int .i64 0]) ∧ w = w')
    (n1 : 2048 < n) (n2 : n ≤ 1099511627776) (c0 : 0 ≤ c) (c5 : c < 5) (x0 : 1 ≤ x) (x1 : x ≤ 14) (y0 : 0 ≤ y) (y1 : y ≤ x) :
    Calls Tryd.prog 6 #[.int .i64 n, .int .i64 c] w fun e w' => e = .returned (.bool true) ∧ Below w.heap.size w w' := by
  have x1 : IntKind.i64.wrap (n + 1) = n + 1 := IntWalk.i64_in _ ⟨by omega, by omega⟩
  have x3 : IntKind.i64.wrap (c + 1) = c + 1 := IntWalk.i64_in _ ⟨by omega, by omega⟩
  go_enter Tryd.func6, Tryd.ntmps6
  go_wp2_with (first
    | (go_at_call 7; with_reducible refine cS.mono ?_; rintro e w' ⟨rfl, rfl⟩)
    | (go_at_call 8; with_reducible refine cO.mono ?_; rintro e w' ⟨rfl, rfl⟩)
    | (go_at_call 8; with_reducible refine cU.mono ?_; rintro e w' ⟨rfl, rfl⟩)
    | (go_at_call 14; with_reducible refine cP.mono ?_; rintro e w' ⟨rfl, rfl⟩)
    | (go_at_call 14; with_reducible refine cQ.mono ?_; rintro e w' ⟨rfl, rfl⟩)
    | (go_at_call 12; with_reducible refine c1.mono ?_; rintro e w' ⟨rfl, rfl⟩)
    | (go_at_call 12; with_reducible refine c2.mono ?_; rintro e w' ⟨rfl, rfl⟩))
  all_goals first | (go_ret; exact ⟨rfl, Below.refl _ _⟩) | (exfalso; omega)
theorem rises_s_o (w : World) (n a b p q : Int) (f : Int) (c x y : Int) (cS : Calls Tryd.prog 7 #[] w fun e w' => e = .returned (.bool true) ∧ w = w')
    (cO : Calls Tryd.prog 8 #[.int .i64 n] w fun e w' => e = .returned (.tuple #[.int .i64 a, .bool true]) ∧ w = w')
    (cU : Calls Tryd.prog 8 #[.int .i64 (n + 1)] w fun e w' => e = .returned (.tuple #[.int .i64 b, .bool true]) ∧ w = w')
    (cP : Calls Tryd.prog 14 #[.int .i64 n] w fun e w' => e = .returned (.tuple #[.int .i64 p, .int .i64 1]) ∧ w = w')
    (cQ : Calls Tryd.prog 14 #[.int .i64 (n + 1)] w fun e w' => e = .returned (.tuple #[.int .i64 q, .int .i64 f]) ∧ w = w')
    (c1 : Calls Tryd.prog 12 #[.int .i64 c] w fun e w' => e = .returned (.tuple #[.int .i64 0, .int .i64 1]) ∧ w = w')
    (n1 : 1 ≤ n) (n2 : n ≤ 120) (a0 : 0 ≤ a) (a1 : a ≤ 5) (b0 : a ≤ b) (b1 : b ≤ a + 1)  :
    Calls Tryd.prog 6 #[.int .i64 n, .int .i64 c] w fun e w' => e = .returned (.bool true) ∧ Below w.heap.size w w' := by
  have x1 : IntKind.i64.wrap (n + 1) = n + 1 := IntWalk.i64_in _ ⟨by omega, by omega⟩
  have n3 : n ≤ 2048 := by omega
  have x2 : IntKind.i64.wrap (a + 1) = a + 1 := IntWalk.i64_in _ ⟨by omega, by omega⟩
  go_enter Tryd.func6, Tryd.ntmps6
  go_wp2_with (first
    | (go_at_call 7; with_reducible refine cS.mono ?_; rintro e w' ⟨rfl, rfl⟩)
    | (go_at_call 8; with_reducible refine cO.mono ?_; rintro e w' ⟨rfl, rfl⟩)
    | (go_at_call 8; with_reducible refine cU.mono ?_; rintro e w' ⟨rfl, rfl⟩)
    | (go_at_call 14; with_reducible refine cP.mono ?_; rintro e w' ⟨rfl, rfl⟩)
    | (go_at_call 14; with_reducible refine cQ.mono ?_; rintro e w' ⟨rfl, rfl⟩)
    | (go_at_call 12; with_reducible refine c1.mono ?_; rintro e w' ⟨rfl, rfl⟩))
  all_goals first | (go_ret; exact ⟨rfl, Below.refl _ _⟩) | (exfalso; omega)
theorem rises_s_e (w : World) (n a b p q : Int) (f : Int) (x y : Int) (cS : Calls Tryd.prog 7 #[] w fun e w' => e = .returned (.bool true) ∧ w = w')
    (cO : Calls Tryd.prog 8 #[.int .i64 n] w fun e w' => e = .returned (.tuple #[.int .i64 a, .bool true]) ∧ w = w')
    (cU : Calls Tryd.prog 8 #[.int .i64 (n + 1)] w fun e w' => e = .returned (.tuple #[.int .i64 b, .bool true]) ∧ w = w')
    (cP : Calls Tryd.prog 14 #[.int .i64 n] w fun e w' => e = .returned (.tuple #[.int .i64 p, .int .i64 1]) ∧ w = w')
    (cQ : Calls Tryd.prog 14 #[.int .i64 (n + 1)] w fun e w' => e = .returned (.tuple #[.int .i64 q, .int .i64 f]) ∧ w = w')
    (c1 : Calls Tryd.prog 12 #[.int .i64 5] w fun e w' => e = .returned (.tuple #[.int .i64 x, .int .i64 0]) ∧ w = w')
    (c2 : Calls Tryd.prog 12 #[.int .i64 6] w fun e w' => e = .returned (.tuple #[.int .i64 y, .int .i64 1]) ∧ w = w')
    (n1 : 1 ≤ n) (n2 : n ≤ 120) (a0 : 0 ≤ a) (a1 : a ≤ 5) (b0 : a ≤ b) (b1 : b ≤ a + 1) (x0 : 1 ≤ x) (x1 : x ≤ 14) :
    Calls Tryd.prog 6 #[.int .i64 n, .int .i64 5] w fun e w' => e = .returned (.bool true) ∧ Below w.heap.size w w' := by
  have x1 : IntKind.i64.wrap (n + 1) = n + 1 := IntWalk.i64_in _ ⟨by omega, by omega⟩
  have n3 : n ≤ 2048 := by omega
  have x2 : IntKind.i64.wrap (a + 1) = a + 1 := IntWalk.i64_in _ ⟨by omega, by omega⟩
  go_enter Tryd.func6, Tryd.ntmps6
  go_wp2_with (first
    | (go_at_call 7; with_reducible refine cS.mono ?_; rintro e w' ⟨rfl, rfl⟩)
    | (go_at_call 8; with_reducible refine cO.mono ?_; rintro e w' ⟨rfl, rfl⟩)
    | (go_at_call 8; with_reducible refine cU.mono ?_; rintro e w' ⟨rfl, rfl⟩)
    | (go_at_call 14; with_reducible refine cP.mono ?_; rintro e w' ⟨rfl, rfl⟩)
    | (go_at_call 14; with_reducible refine cQ.mono ?_; rintro e w' ⟨rfl, rfl⟩)
    | (go_at_call 12; with_reducible refine c1.mono ?_; rintro e w' ⟨rfl, rfl⟩)
    | (go_at_call 12; with_reducible refine c2.mono ?_; rintro e w' ⟨rfl, rfl⟩))
  all_goals first | (go_ret; exact ⟨rfl, Below.refl _ _⟩) | (exfalso; omega)
theorem rises_s_i (w : World) (n a b p q : Int) (f : Int) (c x y : Int) (cS : Calls Tryd.prog 7 #[] w fun e w' => e = .returned (.bool true) ∧ w = w')
    (cO : Calls Tryd.prog 8 #[.int .i64 n] w fun e w' => e = .returned (.tuple #[.int .i64 a, .bool true]) ∧ w = w')
    (cU : Calls Tryd.prog 8 #[.int .i64 (n + 1)] w fun e w' => e = .returned (.tuple #[.int .i64 b, .bool true]) ∧ w = w')
    (cP : Calls Tryd.prog 14 #[.int .i64 n] w fun e w' => e = .returned (.tuple #[.int .i64 p, .int .i64 1]) ∧ w = w')
    (cQ : Calls Tryd.prog 14 #[.int .i64 (n + 1)] w fun e w' => e = .returned (.tuple #[.int .i64 q, .int .i64 f]) ∧ w = w')
    (c1 : Calls Tryd.prog 12 #[.int .i64 c] w fun e w' => e = .returned (.tuple #[.int .i64 x, .int .i64 0]) ∧ w = w')
    (c2 : Calls Tryd.prog 12 #[.int .i64 (c + 1)] w fun e w' => e = .returned (.tuple #[.int .i64 y, .int .i64 0]) ∧ w = w')
    (n1 : 1 ≤ n) (n2 : n ≤ 120) (a0 : 0 ≤ a) (a1 : a ≤ 5) (b0 : a ≤ b) (b1 : b ≤ a + 1) (c0 : 0 ≤ c) (c5 : c < 5) (x0 : 1 ≤ x) (x1 : x ≤ 14) (y0 : 0 ≤ y) (y1 : y ≤ x) :
    Calls Tryd.prog 6 #[.int .i64 n, .int .i64 c] w fun e w' => e = .returned (.bool true) ∧ Below w.heap.size w w' := by
  have x1 : IntKind.i64.wrap (n + 1) = n + 1 := IntWalk.i64_in _ ⟨by omega, by omega⟩
  have n3 : n ≤ 2048 := by omega
  have x2 : IntKind.i64.wrap (a + 1) = a + 1 := IntWalk.i64_in _ ⟨by omega, by omega⟩
  have x3 : IntKind.i64.wrap (c + 1) = c + 1 := IntWalk.i64_in _ ⟨by omega, by omega⟩
  go_enter Tryd.func6, Tryd.ntmps6
  go_wp2_with (first
    | (go_at_call 7; with_reducible refine cS.mono ?_; rintro e w' ⟨rfl, rfl⟩)
    | (go_at_call 8; with_reducible refine cO.mono ?_; rintro e w' ⟨rfl, rfl⟩)
    | (go_at_call 8; with_reducible refine cU.mono ?_; rintro e w' ⟨rfl, rfl⟩)
    | (go_at_call 14; with_reducible refine cP.mono ?_; rintro e w' ⟨rfl, rfl⟩)
    | (go_at_call 14; with_reducible refine cQ.mono ?_; rintro e w' ⟨rfl, rfl⟩)
    | (go_at_call 12; with_reducible refine c1.mono ?_; rintro e w' ⟨rfl, rfl⟩)
    | (go_at_call 12; with_reducible refine c2.mono ?_; rintro e w' ⟨rfl, rfl⟩))
  all_goals first | (go_ret; exact ⟨rfl, Below.refl _ _⟩) | (exfalso; omega)
theorem rises_x_o (w : World) (n a b p q : Int) (f : Int) (c x y : Int) (cS : Calls Tryd.prog 7 #[] w fun e w' => e = .returned (.bool true) ∧ w = w')
    (cO : Calls Tryd.prog 8 #[.int .i64 n] w fun e w' => e = .returned (.tuple #[.int .i64 a, .bool true]) ∧ w = w')
    (cU : Calls Tryd.prog 8 #[.int .i64 (n + 1)] w fun e w' => e = .returned (.tuple #[.int .i64 b, .bool false]) ∧ w = w')
    (cP : Calls Tryd.prog 14 #[.int .i64 n] w fun e w' => e = .returned (.tuple #[.int .i64 p, .int .i64 1]) ∧ w = w')
    (cQ : Calls Tryd.prog 14 #[.int .i64 (n + 1)] w fun e w' => e = .returned (.tuple #[.int .i64 q, .int .i64 f]) ∧ w = w')
    (c1 : Calls Tryd.prog 12 #[.int .i64 c] w fun e w' => e = .returned (.tuple #[.int .i64 0, .int .i64 1]) ∧ w = w')
    (n1 : 1 ≤ n) (n2 : n ≤ 120)  :
    Calls Tryd.prog 6 #[.int .i64 n, .int .i64 c] w fun e w' => e = .returned (.bool true) ∧ Below w.heap.size w w' := by
  have x1 : IntKind.i64.wrap (n + 1) = n + 1 := IntWalk.i64_in _ ⟨by omega, by omega⟩
  have n3 : n ≤ 2048 := by omega
  go_enter Tryd.func6, Tryd.ntmps6
  go_wp2_with (first
    | (go_at_call 7; with_reducible refine cS.mono ?_; rintro e w' ⟨rfl, rfl⟩)
    | (go_at_call 8; with_reducible refine cO.mono ?_; rintro e w' ⟨rfl, rfl⟩)
    | (go_at_call 8; with_reducible refine cU.mono ?_; rintro e w' ⟨rfl, rfl⟩)
    | (go_at_call 14; with_reducible refine cP.mono ?_; rintro e w' ⟨rfl, rfl⟩)
    | (go_at_call 14; with_reducible refine cQ.mono ?_; rintro e w' ⟨rfl, rfl⟩)
    | (go_at_call 12; with_reducible refine c1.mono ?_; rintro e w' ⟨rfl, rfl⟩))
  all_goals first | (go_ret; exact ⟨rfl, Below.refl _ _⟩) | (exfalso; omega)
theorem rises_x_e (w : World) (n a b p q : Int) (f : Int) (x y : Int) (cS : Calls Tryd.prog 7 #[] w fun e w' => e = .returned (.bool true) ∧ w = w')
    (cO : Calls Tryd.prog 8 #[.int .i64 n] w fun e w' => e = .returned (.tuple #[.int .i64 a, .bool true]) ∧ w = w')
    (cU : Calls Tryd.prog 8 #[.int .i64 (n + 1)] w fun e w' => e = .returned (.tuple #[.int .i64 b, .bool false]) ∧ w = w')
    (cP : Calls Tryd.prog 14 #[.int .i64 n] w fun e w' => e = .returned (.tuple #[.int .i64 p, .int .i64 1]) ∧ w = w')
    (cQ : Calls Tryd.prog 14 #[.int .i64 (n + 1)] w fun e w' => e = .returned (.tuple #[.int .i64 q, .int .i64 f]) ∧ w = w')
    (c1 : Calls Tryd.prog 12 #[.int .i64 5] w fun e w' => e = .returned (.tuple #[.int .i64 x, .int .i64 0]) ∧ w = w')
    (c2 : Calls Tryd.prog 12 #[.int .i64 6] w fun e w' => e = .returned (.tuple #[.int .i64 y, .int .i64 1]) ∧ w = w')
    (n1 : 1 ≤ n) (n2 : n ≤ 120) (x0 : 1 ≤ x) (x1 : x ≤ 14) :
    Calls Tryd.prog 6 #[.int .i64 n, .int .i64 5] w fun e w' => e = .returned (.bool true) ∧ Below w.heap.size w w' := by
  have x1 : IntKind.i64.wrap (n + 1) = n + 1 := IntWalk.i64_in _ ⟨by omega, by omega⟩
  have n3 : n ≤ 2048 := by omega
  go_enter Tryd.func6, Tryd.ntmps6
  go_wp2_with (first
    | (go_at_call 7; with_reducible refine cS.mono ?_; rintro e w' ⟨rfl, rfl⟩)
    | (go_at_call 8; with_reducible refine cO.mono ?_; rintro e w' ⟨rfl, rfl⟩)
    | (go_at_call 8; with_reducible refine cU.mono ?_; rintro e w' ⟨rfl, rfl⟩)
    | (go_at_call 14; with_reducible refine cP.mono ?_; rintro e w' ⟨rfl, rfl⟩)
    | (go_at_call 14; with_reducible refine cQ.mono ?_; rintro e w' ⟨rfl, rfl⟩)
    | (go_at_call 12; with_reducible refine c1.mono ?_; rintro e w' ⟨rfl, rfl⟩)
    | (go_at_call 12; with_reducible refine c2.mono ?_; rintro e w' ⟨rfl, rfl⟩))
  all_goals first | (go_ret; exact ⟨rfl, Below.refl _ _⟩) | (exfalso; omega)
theorem rises_x_i (w : World) (n a b p q : Int) (f : Int) (c x y : Int) (cS : Calls Tryd.prog 7 #[] w fun e w' => e = .returned (.bool true) ∧ w = w')
    (cO : Calls Tryd.prog 8 #[.int .i64 n] w fun e w' => e = .returned (.tuple #[.int .i64 a, .bool true]) ∧ w = w')
    (cU : Calls Tryd.prog 8 #[.int .i64 (n + 1)] w fun e w' => e = .returned (.tuple #[.int .i64 b, .bool false]) ∧ w = w')
    (cP : Calls Tryd.prog 14 #[.int .i64 n] w fun e w' => e = .returned (.tuple #[.int .i64 p, .int .i64 1]) ∧ w = w')
    (cQ : Calls Tryd.prog 14 #[.int .i64 (n + 1)] w fun e w' => e = .returned (.tuple #[.int .i64 q, .int .i64 f]) ∧ w = w')
    (c1 : Calls Tryd.prog 12 #[.int .i64 c] w fun e w' => e = .returned (.tuple #[.int .i64 x, .int .i64 0]) ∧ w = w')
    (c2 : Calls Tryd.prog 12 #[.int .i64 (c + 1)] w fun e w' => e = .returned (.tuple #[.int .i64 y, .int .i64 0]) ∧ w = w')
    (n1 : 1 ≤ n) (n2 : n ≤ 120) (c0 : 0 ≤ c) (c5 : c < 5) (x0 : 1 ≤ x) (x1 : x ≤ 14) (y0 : 0 ≤ y) (y1 : y ≤ x) :
    Calls Tryd.prog 6 #[.int .i64 n, .int .i64 c] w fun e w' => e = .returned (.bool true) ∧ Below w.heap.size w w' := by
  have x1 : IntKind.i64.wrap (n + 1) = n + 1 := IntWalk.i64_in _ ⟨by omega, by omega⟩
  have n3 : n ≤ 2048 := by omega
  have x3 : IntKind.i64.wrap (c + 1) = c + 1 := IntWalk.i64_in _ ⟨by omega, by omega⟩
  go_enter Tryd.func6, Tryd.ntmps6
  go_wp2_with (first
    | (go_at_call 7; with_reducible refine cS.mono ?_; rintro e w' ⟨rfl, rfl⟩)
    | (go_at_call 8; with_reducible refine cO.mono ?_; rintro e w' ⟨rfl, rfl⟩)
    | (go_at_call 8; with_reducible refine cU.mono ?_; rintro e w' ⟨rfl, rfl⟩)
    | (go_at_call 14; with_reducible refine cP.mono ?_; rintro e w' ⟨rfl, rfl⟩)
    | (go_at_call 14; with_reducible refine cQ.mono ?_; rintro e w' ⟨rfl, rfl⟩)
    | (go_at_call 12; with_reducible refine c1.mono ?_; rintro e w' ⟨rfl, rfl⟩)
    | (go_at_call 12; with_reducible refine c2.mono ?_; rintro e w' ⟨rfl, rfl⟩))
  all_goals first | (go_ret; exact ⟨rfl, Below.refl _ _⟩) | (exfalso; omega)
theorem rises_l_o (w : World) (n a b p q : Int) (t : Bool) (c x y : Int) (cS : Calls Tryd.prog 7 #[] w fun e w' => e = .returned (.bool true) ∧ w = w')
    (cO : Calls Tryd.prog 8 #[.int .i64 n] w fun e w' => e = .returned (.tuple #[.int .i64 a, .bool false]) ∧ w = w')
    (cU : Calls Tryd.prog 8 #[.int .i64 (n + 1)] w fun e w' => e = .returned (.tuple #[.int .i64 b, .bool t]) ∧ w = w')
    (cP : Calls Tryd.prog 14 #[.int .i64 n] w fun e w' => e = .returned (.tuple #[.int .i64 p, .int .i64 0]) ∧ w = w')
    (cQ : Calls Tryd.prog 14 #[.int .i64 (n + 1)] w fun e w' => e = .returned (.tuple #[.int .i64 q, .int .i64 0]) ∧ w = w')
    (c1 : Calls Tryd.prog 12 #[.int .i64 c] w fun e w' => e = .returned (.tuple #[.int .i64 0, .int .i64 1]) ∧ w = w')
    (n1 : 120 < n) (n2 : n ≤ 2048) (p0 : 0 ≤ p) (p1 : p ≤ 8) (q0 : p ≤ q) (q1 : q ≤ p + 1)  :
    Calls Tryd.prog 6 #[.int .i64 n, .int .i64 c] w fun e w' => e = .returned (.bool true) ∧ Below w.heap.size w w' := by
  have x1 : IntKind.i64.wrap (n + 1) = n + 1 := IntWalk.i64_in _ ⟨by omega, by omega⟩
  have x2 : IntKind.i64.wrap (p + 1) = p + 1 := IntWalk.i64_in _ ⟨by omega, by omega⟩
  go_enter Tryd.func6, Tryd.ntmps6
  go_wp2_with (first
    | (go_at_call 7; with_reducible refine cS.mono ?_; rintro e w' ⟨rfl, rfl⟩)
    | (go_at_call 8; with_reducible refine cO.mono ?_; rintro e w' ⟨rfl, rfl⟩)
    | (go_at_call 8; with_reducible refine cU.mono ?_; rintro e w' ⟨rfl, rfl⟩)
    | (go_at_call 14; with_reducible refine cP.mono ?_; rintro e w' ⟨rfl, rfl⟩)
    | (go_at_call 14; with_reducible refine cQ.mono ?_; rintro e w' ⟨rfl, rfl⟩)
    | (go_at_call 12; with_reducible refine c1.mono ?_; rintro e w' ⟨rfl, rfl⟩))
  all_goals first | (go_ret; exact ⟨rfl, Below.refl _ _⟩) | (exfalso; omega)
theorem rises_l_e (w : World) (n a b p q : Int) (t : Bool) (x y : Int) (cS : Calls Tryd.prog 7 #[] w fun e w' => e = .returned (.bool true) ∧ w = w')
    (cO : Calls Tryd.prog 8 #[.int .i64 n] w fun e w' => e = .returned (.tuple #[.int .i64 a, .bool false]) ∧ w = w')
    (cU : Calls Tryd.prog 8 #[.int .i64 (n + 1)] w fun e w' => e = .returned (.tuple #[.int .i64 b, .bool t]) ∧ w = w')
    (cP : Calls Tryd.prog 14 #[.int .i64 n] w fun e w' => e = .returned (.tuple #[.int .i64 p, .int .i64 0]) ∧ w = w')
    (cQ : Calls Tryd.prog 14 #[.int .i64 (n + 1)] w fun e w' => e = .returned (.tuple #[.int .i64 q, .int .i64 0]) ∧ w = w')
    (c1 : Calls Tryd.prog 12 #[.int .i64 5] w fun e w' => e = .returned (.tuple #[.int .i64 x, .int .i64 0]) ∧ w = w')
    (c2 : Calls Tryd.prog 12 #[.int .i64 6] w fun e w' => e = .returned (.tuple #[.int .i64 y, .int .i64 1]) ∧ w = w')
    (n1 : 120 < n) (n2 : n ≤ 2048) (p0 : 0 ≤ p) (p1 : p ≤ 8) (q0 : p ≤ q) (q1 : q ≤ p + 1) (x0 : 1 ≤ x) (x1 : x ≤ 14) :
    Calls Tryd.prog 6 #[.int .i64 n, .int .i64 5] w fun e w' => e = .returned (.bool true) ∧ Below w.heap.size w w' := by
  have x1 : IntKind.i64.wrap (n + 1) = n + 1 := IntWalk.i64_in _ ⟨by omega, by omega⟩
  have x2 : IntKind.i64.wrap (p + 1) = p + 1 := IntWalk.i64_in _ ⟨by omega, by omega⟩
  go_enter Tryd.func6, Tryd.ntmps6
  go_wp2_with (first
    | (go_at_call 7; with_reducible refine cS.mono ?_; rintro e w' ⟨rfl, rfl⟩)
    | (go_at_call 8; with_reducible refine cO.mono ?_; rintro e w' ⟨rfl, rfl⟩)
    | (go_at_call 8; with_reducible refine cU.mono ?_; rintro e w' ⟨rfl, rfl⟩)
    | (go_at_call 14; with_reducible refine cP.mono ?_; rintro e w' ⟨rfl, rfl⟩)
    | (go_at_call 14; with_reducible refine cQ.mono ?_; rintro e w' ⟨rfl, rfl⟩)
    | (go_at_call 12; with_reducible refine c1.mono ?_; rintro e w' ⟨rfl, rfl⟩)
    | (go_at_call 12; with_reducible refine c2.mono ?_; rintro e w' ⟨rfl, rfl⟩))
  all_goals first | (go_ret; exact ⟨rfl, Below.refl _ _⟩) | (exfalso; omega)
theorem rises_l_i (w : World) (n a b p q : Int) (t : Bool) (c x y : Int) (cS : Calls Tryd.prog 7 #[] w fun e w' => e = .returned (.bool true) ∧ w = w')
    (cO : Calls Tryd.prog 8 #[.int .i64 n] w fun e w' => e = .returned (.tuple #[.int .i64 a, .bool false]) ∧ w = w')
    (cU : Calls Tryd.prog 8 #[.int .i64 (n + 1)] w fun e w' => e = .returned (.tuple #[.int .i64 b, .bool t]) ∧ w = w')
    (cP : Calls Tryd.prog 14 #[.int .i64 n] w fun e w' => e = .returned (.tuple #[.int .i64 p, .int .i64 0]) ∧ w = w')
    (cQ : Calls Tryd.prog 14 #[.int .i64 (n + 1)] w fun e w' => e = .returned (.tuple #[.int .i64 q, .int .i64 0]) ∧ w = w')
    (c1 : Calls Tryd.prog 12 #[.int .i64 c] w fun e w' => e = .returned (.tuple #[.int .i64 x, .int .i64 0]) ∧ w = w')
    (c2 : Calls Tryd.prog 12 #[.int .i64 (c + 1)] w fun e w' => e = .returned (.tuple #[.int .i64 y, .int .i64 0]) ∧ w = w')
    (n1 : 120 < n) (n2 : n ≤ 2048) (p0 : 0 ≤ p) (p1 : p ≤ 8) (q0 : p ≤ q) (q1 : q ≤ p + 1) (c0 : 0 ≤ c) (c5 : c < 5) (x0 : 1 ≤ x) (x1 : x ≤ 14) (y0 : 0 ≤ y) (y1 : y ≤ x) :
    Calls Tryd.prog 6 #[.int .i64 n, .int .i64 c] w fun e w' => e = .returned (.bool true) ∧ Below w.heap.size w w' := by
  have x1 : IntKind.i64.wrap (n + 1) = n + 1 := IntWalk.i64_in _ ⟨by omega, by omega⟩
  have x2 : IntKind.i64.wrap (p + 1) = p + 1 := IntWalk.i64_in _ ⟨by omega, by omega⟩
  have x3 : IntKind.i64.wrap (c + 1) = c + 1 := IntWalk.i64_in _ ⟨by omega, by omega⟩
  go_enter Tryd.func6, Tryd.ntmps6
  go_wp2_with (first
    | (go_at_call 7; with_reducible refine cS.mono ?_; rintro e w' ⟨rfl, rfl⟩)
    | (go_at_call 8; with_reducible refine cO.mono ?_; rintro e w' ⟨rfl, rfl⟩)
    | (go_at_call 8; with_reducible refine cU.mono ?_; rintro e w' ⟨rfl, rfl⟩)
    | (go_at_call 14; with_reducible refine cP.mono ?_; rintro e w' ⟨rfl, rfl⟩)
    | (go_at_call 14; with_reducible refine cQ.mono ?_; rintro e w' ⟨rfl, rfl⟩)
    | (go_at_call 12; with_reducible refine c1.mono ?_; rintro e w' ⟨rfl, rfl⟩)
    | (go_at_call 12; with_reducible refine c2.mono ?_; rintro e w' ⟨rfl, rfl⟩))
  all_goals first | (go_ret; exact ⟨rfl, Below.refl _ _⟩) | (exfalso; omega)
theorem rises_y_o (w : World) (n a b p q : Int) (t : Bool) (c x y : Int) (cS : Calls Tryd.prog 7 #[] w fun e w' => e = .returned (.bool true) ∧ w = w')
    (cO : Calls Tryd.prog 8 #[.int .i64 n] w fun e w' => e = .returned (.tuple #[.int .i64 a, .bool false]) ∧ w = w')
    (cU : Calls Tryd.prog 8 #[.int .i64 (n + 1)] w fun e w' => e = .returned (.tuple #[.int .i64 b, .bool t]) ∧ w = w')
    (cP : Calls Tryd.prog 14 #[.int .i64 n] w fun e w' => e = .returned (.tuple #[.int .i64 p, .int .i64 0]) ∧ w = w')
    (cQ : Calls Tryd.prog 14 #[.int .i64 (n + 1)] w fun e w' => e = .returned (.tuple #[.int .i64 q, .int .i64 1]) ∧ w = w')
    (c1 : Calls Tryd.prog 12 #[.int .i64 c] w fun e w' => e = .returned (.tuple #[.int .i64 0, .int .i64 1]) ∧ w = w')
    (n1 : 120 < n) (n2 : n ≤ 2048)  :
    Calls Tryd.prog 6 #[.int .i64 n, .int .i64 c] w fun e w' => e = .returned (.bool true) ∧ Below w.heap.size w w' := by
  have x1 : IntKind.i64.wrap (n + 1) = n + 1 := IntWalk.i64_in _ ⟨by omega, by omega⟩
  go_enter Tryd.func6, Tryd.ntmps6
  go_wp2_with (first
    | (go_at_call 7; with_reducible refine cS.mono ?_; rintro e w' ⟨rfl, rfl⟩)
    | (go_at_call 8; with_reducible refine cO.mono ?_; rintro e w' ⟨rfl, rfl⟩)
    | (go_at_call 8; with_reducible refine cU.mono ?_; rintro e w' ⟨rfl, rfl⟩)
    | (go_at_call 14; with_reducible refine cP.mono ?_; rintro e w' ⟨rfl, rfl⟩)
    | (go_at_call 14; with_reducible refine cQ.mono ?_; rintro e w' ⟨rfl, rfl⟩)
    | (go_at_call 12; with_reducible refine c1.mono ?_; rintro e w' ⟨rfl, rfl⟩))
  all_goals first | (go_ret; exact ⟨rfl, Below.refl _ _⟩) | (exfalso; omega)
theorem rises_y_e (w : World) (n a b p q : Int) (t : Bool) (x y : Int) (cS : Calls Tryd.prog 7 #[] w fun e w' => e = .returned (.bool true) ∧ w = w')
    (cO : Calls Tryd.prog 8 #[.int .i64 n] w fun e w' => e = .returned (.tuple #[.int .i64 a, .bool false]) ∧ w = w')
    (cU : Calls Tryd.prog 8 #[.int .i64 (n + 1)] w fun e w' => e = .returned (.tuple #[.int .i64 b, .bool t]) ∧ w = w')
    (cP : Calls Tryd.prog 14 #[.int .i64 n] w fun e w' => e = .returned (.tuple #[.int .i64 p, .int .i64 0]) ∧ w = w')
    (cQ : Calls Tryd.prog 14 #[.int .i64 (n + 1)] w fun e w' => e = .returned (.tuple #[.int .i64 q, .int .i64 1]) ∧ w = w')
    (c1 : Calls Tryd.prog 12 #[.int .i64 5] w fun e w' => e = .returned (.tuple #[.int .i64 x, .int .i64 0]) ∧ w = w')
    (c2 : Calls Tryd.prog 12 #[.int .i64 6] w fun e w' => e = .returned (.tuple #[.int .i64 y, .int .i64 1]) ∧ w = w')
    (n1 : 120 < n) (n2 : n ≤ 2048) (x0 : 1 ≤ x) (x1 : x ≤ 14) :
    Calls Tryd.prog 6 #[.int .i64 n, .int .i64 5] w fun e w' => e = .returned (.bool true) ∧ Below w.heap.size w w' := by
  have x1 : IntKind.i64.wrap (n + 1) = n + 1 := IntWalk.i64_in _ ⟨by omega, by omega⟩
  go_enter Tryd.func6, Tryd.ntmps6
  go_wp2_with (first
    | (go_at_call 7; with_reducible refine cS.mono ?_; rintro e w' ⟨rfl, rfl⟩)
    | (go_at_call 8; with_reducible refine cO.mono ?_; rintro e w' ⟨rfl, rfl⟩)
    | (go_at_call 8; with_reducible refine cU.mono ?_; rintro e w' ⟨rfl, rfl⟩)
    | (go_at_call 14; with_reducible refine cP.mono ?_; rintro e w' ⟨rfl, rfl⟩)
    | (go_at_call 14; with_reducible refine cQ.mono ?_; rintro e w' ⟨rfl, rfl⟩)
    | (go_at_call 12; with_reducible refine c1.mono ?_; rintro e w' ⟨rfl, rfl⟩)
    | (go_at_call 12; with_reducible refine c2.mono ?_; rintro e w' ⟨rfl, rfl⟩))
  all_goals first | (go_ret; exact ⟨rfl, Below.refl _ _⟩) | (exfalso; omega)
theorem rises_y_i (w : World) (n a b p q : Int) (t : Bool) (c x y : Int) (cS : Calls Tryd.prog 7 #[] w fun e w' => e = .returned (.bool true) ∧ w = w')
    (cO : Calls Tryd.prog 8 #[.int .i64 n] w fun e w' => e = .returned (.tuple #[.int .i64 a, .bool false]) ∧ w = w')
    (cU : Calls Tryd.prog 8 #[.int .i64 (n + 1)] w fun e w' => e = .returned (.tuple #[.int .i64 b, .bool t]) ∧ w = w')
    (cP : Calls Tryd.prog 14 #[.int .i64 n] w fun e w' => e = .returned (.tuple #[.int .i64 p, .int .i64 0]) ∧ w = w')
    (cQ : Calls Tryd.prog 14 #[.int .i64 (n + 1)] w fun e w' => e = .returned (.tuple #[.int .i64 q, .int .i64 1]) ∧ w = w')
    (c1 : Calls Tryd.prog 12 #[.int .i64 c] w fun e w' => e = .returned (.tuple #[.int .i64 x, .int .i64 0]) ∧ w = w')
    (c2 : Calls Tryd.prog 12 #[.int .i64 (c + 1)] w fun e w' => e = .returned (.tuple #[.int .i64 y, .int .i64 0]) ∧ w = w')
    (n1 : 120 < n) (n2 : n ≤ 2048) (c0 : 0 ≤ c) (c5 : c < 5) (x0 : 1 ≤ x) (x1 : x ≤ 14) (y0 : 0 ≤ y) (y1 : y ≤ x) :
    Calls Tryd.prog 6 #[.int .i64 n, .int .i64 c] w fun e w' => e = .returned (.bool true) ∧ Below w.heap.size w w' := by
  have x1 : IntKind.i64.wrap (n + 1) = n + 1 := IntWalk.i64_in _ ⟨by omega, by omega⟩
  have x3 : IntKind.i64.wrap (c + 1) = c + 1 := IntWalk.i64_in _ ⟨by omega, by omega⟩
  go_enter Tryd.func6, Tryd.ntmps6
  go_wp2_with (first
    | (go_at_call 7; with_reducible refine cS.mono ?_; rintro e w' ⟨rfl, rfl⟩)
    | (go_at_call 8; with_reducible refine cO.mono ?_; rintro e w' ⟨rfl, rfl⟩)
    | (go_at_call 8; with_reducible refine cU.mono ?_; rintro e w' ⟨rfl, rfl⟩)
    | (go_at_call 14; with_reducible refine cP.mono ?_; rintro e w' ⟨rfl, rfl⟩)
    | (go_at_call 14; with_reducible refine cQ.mono ?_; rintro e w' ⟨rfl, rfl⟩)
    | (go_at_call 12; with_reducible refine c1.mono ?_; rintro e w' ⟨rfl, rfl⟩)
    | (go_at_call 12; with_reducible refine c2.mono ?_; rintro e w' ⟨rfl, rfl⟩))
  all_goals first | (go_ret; exact ⟨rfl, Below.refl _ _⟩) | (exfalso; omega)
theorem rises_f (w : World) (n c : Int) (cS : Calls Tryd.prog 7 #[] w fun e w' => e = .returned (.bool true) ∧ w = w') (n1 : 1099511627776 < n) :
    Calls Tryd.prog 6 #[.int .i64 n, .int .i64 c] w fun e w' => e = .returned (.bool true) ∧ Below w.heap.size w w' := by
  go_enter Tryd.func6, Tryd.ntmps6
  go_wp2_with (go_at_call 7; with_reducible refine cS.mono ?_; rintro e w' ⟨rfl, rfl⟩)
  all_goals first | (go_ret; exact ⟨rfl, Below.refl _ _⟩) | (exfalso; omega)
theorem rises_d (w : World) (n c : Int) (cS : Calls Tryd.prog 7 #[] w fun e w' => e = .returned (.bool true) ∧ w = w') (n1 : n < -1099511627776) :
    Calls Tryd.prog 6 #[.int .i64 n, .int .i64 c] w fun e w' => e = .returned (.bool true) ∧ Below w.heap.size w w' := by
  go_enter Tryd.func6, Tryd.ntmps6
  go_wp2_with (go_at_call 7; with_reducible refine cS.mono ?_; rintro e w' ⟨rfl, rfl⟩)
  all_goals first | (go_ret; exact ⟨rfl, Below.refl _ _⟩) | (exfalso; omega)

theorem classRises_walk (w : World) (T : Cws w) (n : Int) (hw0 : (Lit.int .i64 n).wf = true) (c : Int) (hw1 : (Lit.int .i64 c).wf = true) :
    Calls Tryd.prog 6 #[.int .i64 n, .int .i64 c] w fun e w' => e = .returned (.bool true) ∧ Below w.heap.size w w' := by
  have cS := smallC_any w T
  by_cases g1 : 1099511627776 < n
  · exact rises_f w n c cS g1
  by_cases g2 : n < -1099511627776
  · exact rises_d w n c cS g2
  have cO := of_any n w T
  have cU := of_any (n + 1) w T
  have cP := pages_any n w T
  have cQ := pages_any (n + 1) w T
  have c1 := cells_any c w T
  have c2 := cells_any (c + 1) w T
  by_cases hs : 1 ≤ n ∧ n ≤ 120
  · rw [cl_b hs] at cO
    rw [(pg_f (n := n) (by omega)).2] at cP
    by_cases hs' : n + 1 ≤ 120
    · rw [cl_b (n := n + 1) ⟨by omega, hs'⟩] at cU
      obtain ⟨b0, b1⟩ := clN_rises hs.1 hs'
      have ha := clN_lt n
      by_cases hc : 0 ≤ c ∧ c < 6
      · obtain ⟨_, _, m1, m2, _, _⟩ := cls_in hc
        rw [wdE_in hc] at c1
        by_cases h5 : c < 5
        · rw [wdE_in (c := c + 1) ⟨by omega, by omega⟩] at c2
          obtain ⟨_, _, m3, _⟩ := cls_in (c := c + 1) ⟨by omega, by omega⟩
          exact rises_s_i w n _ _ _ _ _ c _ _ cS cO cU cP cQ c1 c2 hs.1 hs.2 (by omega) (by omega) (by omega) (by omega) hc.1 h5 m1 m2 (by omega) (ceN_falls hc.1 (by omega))
        · obtain rfl : c = 5 := by omega
          have c2 : Calls Tryd.prog 12 #[.int .i64 6] w fun e w' => e = .returned (.tuple #[.int .i64 (ceN 6), .int .i64 1]) ∧ w = w' := cells_any 6 w T
          exact rises_s_e w n _ _ _ _ _ _ _ cS cO cU cP cQ c1 c2 hs.1 hs.2 (by omega) (by omega) (by omega) (by omega) m1 m2
      · rw [wdE_out hc, ceN_out hc] at c1
        exact rises_s_o w n _ _ _ _ _ c 0 0 cS cO cU cP cQ c1 hs.1 hs.2 (by omega) (by omega) (by omega) (by omega)
    · rw [(cl_f (n := n + 1) (by omega)).2] at cU
      by_cases hc : 0 ≤ c ∧ c < 6
      · obtain ⟨_, _, m1, m2, _, _⟩ := cls_in hc
        rw [wdE_in hc] at c1
        by_cases h5 : c < 5
        · rw [wdE_in (c := c + 1) ⟨by omega, by omega⟩] at c2
          obtain ⟨_, _, m3, _⟩ := cls_in (c := c + 1) ⟨by omega, by omega⟩
          exact rises_x_i w n _ _ _ _ _ c _ _ cS cO cU cP cQ c1 c2 hs.1 hs.2 hc.1 h5 m1 m2 (by omega) (ceN_falls hc.1 (by omega))
        · obtain rfl : c = 5 := by omega
          have c2 : Calls Tryd.prog 12 #[.int .i64 6] w fun e w' => e = .returned (.tuple #[.int .i64 (ceN 6), .int .i64 1]) ∧ w = w' := cells_any 6 w T
          exact rises_x_e w n _ _ _ _ _ _ _ cS cO cU cP cQ c1 c2 hs.1 hs.2 m1 m2
      · rw [wdE_out hc, ceN_out hc] at c1
        exact rises_x_o w n _ _ _ _ _ c 0 0 cS cO cU cP cQ c1 hs.1 hs.2
  · rw [(cl_f hs).2] at cO
    by_cases hl : 120 < n ∧ n ≤ 2048
    · rw [(pg_t hl).1, (pg_t hl).2] at cP
      by_cases hl' : n + 1 ≤ 2048
      · rw [(pg_t (n := n + 1) ⟨by omega, hl'⟩).1, (pg_t (n := n + 1) ⟨by omega, hl'⟩).2] at cQ
        by_cases hc : 0 ≤ c ∧ c < 6
        · obtain ⟨_, _, m1, m2, _, _⟩ := cls_in hc
          rw [wdE_in hc] at c1
          by_cases h5 : c < 5
          · rw [wdE_in (c := c + 1) ⟨by omega, by omega⟩] at c2
            obtain ⟨_, _, m3, _⟩ := cls_in (c := c + 1) ⟨by omega, by omega⟩
            exact rises_l_i w n _ _ _ _ _ c _ _ cS cO cU cP cQ c1 c2 hl.1 hl.2 (by omega) (by omega) (by omega) (by omega) hc.1 h5 m1 m2 (by omega) (ceN_falls hc.1 (by omega))
          · obtain rfl : c = 5 := by omega
            have c2 : Calls Tryd.prog 12 #[.int .i64 6] w fun e w' => e = .returned (.tuple #[.int .i64 (ceN 6), .int .i64 1]) ∧ w = w' := cells_any 6 w T
            exact rises_l_e w n _ _ _ _ _ _ _ cS cO cU cP cQ c1 c2 hl.1 hl.2 (by omega) (by omega) (by omega) (by omega) m1 m2
        · rw [wdE_out hc, ceN_out hc] at c1
          exact rises_l_o w n _ _ _ _ _ c 0 0 cS cO cU cP cQ c1 hl.1 hl.2 (by omega) (by omega) (by omega) (by omega)
      · rw [(pg_f (n := n + 1) (by omega)).2] at cQ
        by_cases hc : 0 ≤ c ∧ c < 6
        · obtain ⟨_, _, m1, m2, _, _⟩ := cls_in hc
          rw [wdE_in hc] at c1
          by_cases h5 : c < 5
          · rw [wdE_in (c := c + 1) ⟨by omega, by omega⟩] at c2
            obtain ⟨_, _, m3, _⟩ := cls_in (c := c + 1) ⟨by omega, by omega⟩
            exact rises_y_i w n _ _ _ _ _ c _ _ cS cO cU cP cQ c1 c2 hl.1 hl.2 hc.1 h5 m1 m2 (by omega) (ceN_falls hc.1 (by omega))
          · obtain rfl : c = 5 := by omega
            have c2 : Calls Tryd.prog 12 #[.int .i64 6] w fun e w' => e = .returned (.tuple #[.int .i64 (ceN 6), .int .i64 1]) ∧ w = w' := cells_any 6 w T
            exact rises_y_e w n _ _ _ _ _ _ _ cS cO cU cP cQ c1 c2 hl.1 hl.2 m1 m2
        · rw [wdE_out hc, ceN_out hc] at c1
          exact rises_y_o w n _ _ _ _ _ c 0 0 cS cO cU cP cQ c1 hl.1 hl.2
    · rw [(pg_f hl).2] at cP
      by_cases hb : n < 1
      · skip
        by_cases hc : 0 ≤ c ∧ c < 6
        · obtain ⟨_, _, m1, m2, _, _⟩ := cls_in hc
          rw [wdE_in hc] at c1
          by_cases h5 : c < 5
          · rw [wdE_in (c := c + 1) ⟨by omega, by omega⟩] at c2
            obtain ⟨_, _, m3, _⟩ := cls_in (c := c + 1) ⟨by omega, by omega⟩
            exact rises_b_i w n _ _ _ _ _ _ c _ _ cS cO cU cP cQ c1 c2 hb (by omega) hc.1 h5 m1 m2 (by omega) (ceN_falls hc.1 (by omega))
          · obtain rfl : c = 5 := by omega
            have c2 : Calls Tryd.prog 12 #[.int .i64 6] w fun e w' => e = .returned (.tuple #[.int .i64 (ceN 6), .int .i64 1]) ∧ w = w' := cells_any 6 w T
            exact rises_b_e w n _ _ _ _ _ _ _ _ cS cO cU cP cQ c1 c2 hb (by omega) m1 m2
        · rw [wdE_out hc, ceN_out hc] at c1
          exact rises_b_o w n _ _ _ _ _ _ c 0 0 cS cO cU cP cQ c1 hb (by omega)
      · skip
        by_cases hc : 0 ≤ c ∧ c < 6
        · obtain ⟨_, _, m1, m2, _, _⟩ := cls_in hc
          rw [wdE_in hc] at c1
          by_cases h5 : c < 5
          · rw [wdE_in (c := c + 1) ⟨by omega, by omega⟩] at c2
            obtain ⟨_, _, m3, _⟩ := cls_in (c := c + 1) ⟨by omega, by omega⟩
            exact rises_g_i w n _ _ _ _ _ _ c _ _ cS cO cU cP cQ c1 c2 (by omega) (by omega) hc.1 h5 m1 m2 (by omega) (ceN_falls hc.1 (by omega))
          · obtain rfl : c = 5 := by omega
            have c2 : Calls Tryd.prog 12 #[.int .i64 6] w fun e w' => e = .returned (.tuple #[.int .i64 (ceN 6), .int .i64 1]) ∧ w = w' := cells_any 6 w T
            exact rises_g_e w n _ _ _ _ _ _ _ _ cS cO cU cP cQ c1 c2 (by omega) (by omega) m1 m2
        · rw [wdE_out hc, ceN_out hc] at c1
          exact rises_g_o w n _ _ _ _ _ _ c 0 0 cS cO cU cP cQ c1 (by omega) (by omega)
end Go.Proofs.YtdpdgmdfffedpaaDoor
