/- 'ClassHolds' walked: cells lie behind the head, within the page, one behind another; each object's cell holds it, one of a lesser class does not. -/
import Derived.Test.YtdpdgmdfffedpaaDoorSmallCls
namespace Go.Proofs.YtdpdgmdfffedpaaDoor
set_option maxRecDepth 100000
open Go.RowKit
set_option linter.unusedVariables false
set_option linter.unusedSimpArgs false
set_option maxRecDepth 100000

theorem holds_s0_o (w : World) (n a W L : Int) (cS : Calls Tryd.prog 7 #[] w fun e w' => e = .returned (.bool true) ∧ w = w')
    (cO : Calls Tryd.prog 8 #[.int .i64 n] w fun e w' => e = .returned (.tuple #[.int .i64 a, .bool true]) ∧ w = w')
    (cA : Calls Tryd.prog 10 #[.int .i64 a] w fun e w' => e = .returned (.tuple #[.int .i64 W, .int .i64 0]) ∧ w = w')
    (cB : Calls Tryd.prog 10 #[.int .i64 (a - 1)] w fun e w' => e = .returned (.tuple #[.int .i64 L, .int .i64 0]) ∧ w = w')
    (n1 : 1 ≤ n) (n2 : n ≤ 120) (a0 : 0 ≤ a) (a5 : a ≤ 5) (W0 : 2 ≤ W) (W1 : W ≤ 15) (h1 : n ≤ 8 * W) (L0 : 0 ≤ L) (L1 : L ≤ 15) (h2 : 8 * L < n)
    (c k m v A : Int) (g h : Int)
    (c1 : Calls Tryd.prog 12 #[.int .i64 c] w fun e w' => e = .returned (.tuple #[.int .i64 m, .int .i64 g]) ∧ w = w')
    (c2 : Calls Tryd.prog 16 #[.int .i64 c, .int .i64 k] w fun e w' => e = .returned (.tuple #[.int .i64 A, .int .i64 h]) ∧ w = w')
    (c3 : Calls Tryd.prog 10 #[.int .i64 c] w fun e w' => e = .returned (.tuple #[.int .i64 v, .int .i64 g]) ∧ w = w')
    (g0 : g = 0) (h0 : h = 0) (q r s : Int) (e1 : v * k = q) (eA : A = 4 + q) (e2 : 4 + q + v ≤ 32) (e3 : v * m = r) (e4 : 4 + r ≤ 32) (e5 : v * (m + 1) = s) (e6 : 32 < 4 + s) (e7 : s ≤ 300) (e8 : 0 ≤ q) (e9 : 0 ≤ r) (v0 : 0 ≤ v) (v1 : v ≤ 15) (m0 : 0 ≤ m) (m1 : m ≤ 14) :
    Calls Tryd.prog 4 #[.int .i64 n, .int .i64 c, .int .i64 k] w fun e w' => e = .returned (.bool true) ∧ Below w.heap.size w w' := by
  subst g0 h0
  have x1 : IntKind.i64.wrap (8 * W) = 8 * W := IntWalk.i64_in _ ⟨by omega, by omega⟩
  have x2 : IntKind.i64.wrap (8 * L) = 8 * L := IntWalk.i64_in _ ⟨by omega, by omega⟩
  have x3 : IntKind.i64.wrap (a - 1) = a - 1 := IntWalk.i64_in _ ⟨by omega, by omega⟩
  subst eA
  have y1 : IntKind.i64.wrap (v * k) = q := by rw [e1]; exact IntWalk.i64_in _ ⟨by omega, by omega⟩
  have y2 : IntKind.i64.wrap (4 + q) = 4 + q := IntWalk.i64_in _ ⟨by omega, by omega⟩
  have y3 : IntKind.i64.wrap (4 + q + v) = 4 + q + v := IntWalk.i64_in _ ⟨by omega, by omega⟩
  have y4 : IntKind.i64.wrap (v * m) = r := by rw [e3]; exact IntWalk.i64_in _ ⟨by omega, by omega⟩
  have y5 : IntKind.i64.wrap (4 + r) = 4 + r := IntWalk.i64_in _ ⟨by omega, by omega⟩
  have y6 : IntKind.i64.wrap (m + 1) = m + 1 := IntWalk.i64_in _ ⟨by omega, by omega⟩
  have y7 : IntKind.i64.wrap (v * (m + 1)) = s := by rw [e5]; exact IntWalk.i64_in _ ⟨by omega, by omega⟩
  have y8 : IntKind.i64.wrap (4 + s) = 4 + s := IntWalk.i64_in _ ⟨by omega, by omega⟩
  clear e1 e3 e5
  go_enter Tryd.func4, Tryd.ntmps4
  go_wp2_with (first
    | (go_at_call 7; with_reducible refine cS.mono ?_; rintro e w' ⟨rfl, rfl⟩)
    | (go_at_call 8; with_reducible refine cO.mono ?_; rintro e w' ⟨rfl, rfl⟩)
    | (go_at_call 10; with_reducible refine cA.mono ?_; rintro e w' ⟨rfl, rfl⟩)
    | (go_at_call 10; with_reducible refine cB.mono ?_; rintro e w' ⟨rfl, rfl⟩)
    | (go_at_call 10; with_reducible refine c3.mono ?_; rintro e w' ⟨rfl, rfl⟩)
    | (go_at_call 12; with_reducible refine c1.mono ?_; rintro e w' ⟨rfl, rfl⟩)
    | (go_at_call 16; with_reducible refine c2.mono ?_; rintro e w' ⟨rfl, rfl⟩))
  all_goals first | (go_ret; exact ⟨rfl, Below.refl _ _⟩) | (exfalso; omega)
theorem holds_s0_n (w : World) (n a W L : Int) (cS : Calls Tryd.prog 7 #[] w fun e w' => e = .returned (.bool true) ∧ w = w')
    (cO : Calls Tryd.prog 8 #[.int .i64 n] w fun e w' => e = .returned (.tuple #[.int .i64 a, .bool true]) ∧ w = w')
    (cA : Calls Tryd.prog 10 #[.int .i64 a] w fun e w' => e = .returned (.tuple #[.int .i64 W, .int .i64 0]) ∧ w = w')
    (cB : Calls Tryd.prog 10 #[.int .i64 (a - 1)] w fun e w' => e = .returned (.tuple #[.int .i64 L, .int .i64 0]) ∧ w = w')
    (n1 : 1 ≤ n) (n2 : n ≤ 120) (a0 : 0 ≤ a) (a5 : a ≤ 5) (W0 : 2 ≤ W) (W1 : W ≤ 15) (h1 : n ≤ 8 * W) (L0 : 0 ≤ L) (L1 : L ≤ 15) (h2 : 8 * L < n)
    (c k m v A : Int) (g h : Int)
    (c1 : Calls Tryd.prog 12 #[.int .i64 c] w fun e w' => e = .returned (.tuple #[.int .i64 m, .int .i64 g]) ∧ w = w')
    (c2 : Calls Tryd.prog 16 #[.int .i64 c, .int .i64 k] w fun e w' => e = .returned (.tuple #[.int .i64 A, .int .i64 h]) ∧ w = w')
    (c3 : Calls Tryd.prog 10 #[.int .i64 c] w fun e w' => e = .returned (.tuple #[.int .i64 v, .int .i64 g]) ∧ w = w')
    (g0 : g = 1) (h0 : h = 1) :
    Calls Tryd.prog 4 #[.int .i64 n, .int .i64 c, .int .i64 k] w fun e w' => e = .returned (.bool true) ∧ Below w.heap.size w w' := by
  subst g0 h0
  have x1 : IntKind.i64.wrap (8 * W) = 8 * W := IntWalk.i64_in _ ⟨by omega, by omega⟩
  have x2 : IntKind.i64.wrap (8 * L) = 8 * L := IntWalk.i64_in _ ⟨by omega, by omega⟩
  have x3 : IntKind.i64.wrap (a - 1) = a - 1 := IntWalk.i64_in _ ⟨by omega, by omega⟩
  go_enter Tryd.func4, Tryd.ntmps4
  go_wp2_with (first
    | (go_at_call 7; with_reducible refine cS.mono ?_; rintro e w' ⟨rfl, rfl⟩)
    | (go_at_call 8; with_reducible refine cO.mono ?_; rintro e w' ⟨rfl, rfl⟩)
    | (go_at_call 10; with_reducible refine cA.mono ?_; rintro e w' ⟨rfl, rfl⟩)
    | (go_at_call 10; with_reducible refine cB.mono ?_; rintro e w' ⟨rfl, rfl⟩)
    | (go_at_call 10; with_reducible refine c3.mono ?_; rintro e w' ⟨rfl, rfl⟩)
    | (go_at_call 12; with_reducible refine c1.mono ?_; rintro e w' ⟨rfl, rfl⟩)
    | (go_at_call 16; with_reducible refine c2.mono ?_; rintro e w' ⟨rfl, rfl⟩))
  all_goals first | (go_ret; exact ⟨rfl, Below.refl _ _⟩) | (exfalso; omega)
theorem holds_s0_u (w : World) (n a W L : Int) (cS : Calls Tryd.prog 7 #[] w fun e w' => e = .returned (.bool true) ∧ w = w')
    (cO : Calls Tryd.prog 8 #[.int .i64 n] w fun e w' => e = .returned (.tuple #[.int .i64 a, .bool true]) ∧ w = w')
    (cA : Calls Tryd.prog 10 #[.int .i64 a] w fun e w' => e = .returned (.tuple #[.int .i64 W, .int .i64 0]) ∧ w = w')
    (cB : Calls Tryd.prog 10 #[.int .i64 (a - 1)] w fun e w' => e = .returned (.tuple #[.int .i64 L, .int .i64 0]) ∧ w = w')
    (n1 : 1 ≤ n) (n2 : n ≤ 120) (a0 : 0 ≤ a) (a5 : a ≤ 5) (W0 : 2 ≤ W) (W1 : W ≤ 15) (h1 : n ≤ 8 * W) (L0 : 0 ≤ L) (L1 : L ≤ 15) (h2 : 8 * L < n)
    (c k m v A : Int) (g h : Int)
    (c1 : Calls Tryd.prog 12 #[.int .i64 c] w fun e w' => e = .returned (.tuple #[.int .i64 m, .int .i64 g]) ∧ w = w')
    (c2 : Calls Tryd.prog 16 #[.int .i64 c, .int .i64 k] w fun e w' => e = .returned (.tuple #[.int .i64 A, .int .i64 h]) ∧ w = w')
    (c3 : Calls Tryd.prog 10 #[.int .i64 c] w fun e w' => e = .returned (.tuple #[.int .i64 v, .int .i64 g]) ∧ w = w')
    (g0 : g = 0) (h0 : h = 1) (hk : k < 0) :
    Calls Tryd.prog 4 #[.int .i64 n, .int .i64 c, .int .i64 k] w fun e w' => e = .returned (.bool true) ∧ Below w.heap.size w w' := by
  subst g0 h0
  have x1 : IntKind.i64.wrap (8 * W) = 8 * W := IntWalk.i64_in _ ⟨by omega, by omega⟩
  have x2 : IntKind.i64.wrap (8 * L) = 8 * L := IntWalk.i64_in _ ⟨by omega, by omega⟩
  have x3 : IntKind.i64.wrap (a - 1) = a - 1 := IntWalk.i64_in _ ⟨by omega, by omega⟩
  go_enter Tryd.func4, Tryd.ntmps4
  go_wp2_with (first
    | (go_at_call 7; with_reducible refine cS.mono ?_; rintro e w' ⟨rfl, rfl⟩)
    | (go_at_call 8; with_reducible refine cO.mono ?_; rintro e w' ⟨rfl, rfl⟩)
    | (go_at_call 10; with_reducible refine cA.mono ?_; rintro e w' ⟨rfl, rfl⟩)
    | (go_at_call 10; with_reducible refine cB.mono ?_; rintro e w' ⟨rfl, rfl⟩)
    | (go_at_call 10; with_reducible refine c3.mono ?_; rintro e w' ⟨rfl, rfl⟩)
    | (go_at_call 12; with_reducible refine c1.mono ?_; rintro e w' ⟨rfl, rfl⟩)
    | (go_at_call 16; with_reducible refine c2.mono ?_; rintro e w' ⟨rfl, rfl⟩))
  all_goals first | (go_ret; exact ⟨rfl, Below.refl _ _⟩) | (exfalso; omega)
theorem holds_s0_v (w : World) (n a W L : Int) (cS : Calls Tryd.prog 7 #[] w fun e w' => e = .returned (.bool true) ∧ w = w')
    (cO : Calls Tryd.prog 8 #[.int .i64 n] w fun e w' => e = .returned (.tuple #[.int .i64 a, .bool true]) ∧ w = w')
    (cA : Calls Tryd.prog 10 #[.int .i64 a] w fun e w' => e = .returned (.tuple #[.int .i64 W, .int .i64 0]) ∧ w = w')
    (cB : Calls Tryd.prog 10 #[.int .i64 (a - 1)] w fun e w' => e = .returned (.tuple #[.int .i64 L, .int .i64 0]) ∧ w = w')
    (n1 : 1 ≤ n) (n2 : n ≤ 120) (a0 : 0 ≤ a) (a5 : a ≤ 5) (W0 : 2 ≤ W) (W1 : W ≤ 15) (h1 : n ≤ 8 * W) (L0 : 0 ≤ L) (L1 : L ≤ 15) (h2 : 8 * L < n)
    (c k m v A : Int) (g h : Int)
    (c1 : Calls Tryd.prog 12 #[.int .i64 c] w fun e w' => e = .returned (.tuple #[.int .i64 m, .int .i64 g]) ∧ w = w')
    (c2 : Calls Tryd.prog 16 #[.int .i64 c, .int .i64 k] w fun e w' => e = .returned (.tuple #[.int .i64 A, .int .i64 h]) ∧ w = w')
    (c3 : Calls Tryd.prog 10 #[.int .i64 c] w fun e w' => e = .returned (.tuple #[.int .i64 v, .int .i64 g]) ∧ w = w')
    (g0 : g = 0) (h0 : h = 1) (hk : m ≤ k) :
    Calls Tryd.prog 4 #[.int .i64 n, .int .i64 c, .int .i64 k] w fun e w' => e = .returned (.bool true) ∧ Below w.heap.size w w' := by
  subst g0 h0
  have x1 : IntKind.i64.wrap (8 * W) = 8 * W := IntWalk.i64_in _ ⟨by omega, by omega⟩
  have x2 : IntKind.i64.wrap (8 * L) = 8 * L := IntWalk.i64_in _ ⟨by omega, by omega⟩
  have x3 : IntKind.i64.wrap (a - 1) = a - 1 := IntWalk.i64_in _ ⟨by omega, by omega⟩
  go_enter Tryd.func4, Tryd.ntmps4
  go_wp2_with (first
    | (go_at_call 7; with_reducible refine cS.mono ?_; rintro e w' ⟨rfl, rfl⟩)
    | (go_at_call 8; with_reducible refine cO.mono ?_; rintro e w' ⟨rfl, rfl⟩)
    | (go_at_call 10; with_reducible refine cA.mono ?_; rintro e w' ⟨rfl, rfl⟩)
    | (go_at_call 10; with_reducible refine cB.mono ?_; rintro e w' ⟨rfl, rfl⟩)
    | (go_at_call 10; with_reducible refine c3.mono ?_; rintro e w' ⟨rfl, rfl⟩)
    | (go_at_call 12; with_reducible refine c1.mono ?_; rintro e w' ⟨rfl, rfl⟩)
    | (go_at_call 16; with_reducible refine c2.mono ?_; rintro e w' ⟨rfl, rfl⟩))
  all_goals first | (go_ret; exact ⟨rfl, Below.refl _ _⟩) | (exfalso; omega)
theorem holds_s0 (w : World) (n a W L : Int) (cS : Calls Tryd.prog 7 #[] w fun e w' => e = .returned (.bool true) ∧ w = w')
    (cO : Calls Tryd.prog 8 #[.int .i64 n] w fun e w' => e = .returned (.tuple #[.int .i64 a, .bool true]) ∧ w = w')
    (cA : Calls Tryd.prog 10 #[.int .i64 a] w fun e w' => e = .returned (.tuple #[.int .i64 W, .int .i64 0]) ∧ w = w')
    (cB : Calls Tryd.prog 10 #[.int .i64 (a - 1)] w fun e w' => e = .returned (.tuple #[.int .i64 L, .int .i64 0]) ∧ w = w')
    (n1 : 1 ≤ n) (n2 : n ≤ 120) (a0 : 0 ≤ a) (a5 : a ≤ 5) (W0 : 2 ≤ W) (W1 : W ≤ 15) (h1 : n ≤ 8 * W) (L0 : 0 ≤ L) (L1 : L ≤ 15) (h2 : 8 * L < n)
    (c k m v A : Int) (g h : Int)
    (c1 : Calls Tryd.prog 12 #[.int .i64 c] w fun e w' => e = .returned (.tuple #[.int .i64 m, .int .i64 g]) ∧ w = w')
    (c2 : Calls Tryd.prog 16 #[.int .i64 c, .int .i64 k] w fun e w' => e = .returned (.tuple #[.int .i64 A, .int .i64 h]) ∧ w = w')
    (c3 : Calls Tryd.prog 10 #[.int .i64 c] w fun e w' => e = .returned (.tuple #[.int .i64 v, .int .i64 g]) ∧ w = w')
    (ok : (g = 0 ∧ h = 0 ∧ ∃ q r s : Int, v * k = q ∧ A = 4 + q ∧ 4 + q + v ≤ 32 ∧ v * m = r ∧ 4 + r ≤ 32 ∧ v * (m + 1) = s ∧ 32 < 4 + s ∧ s ≤ 300 ∧ 0 ≤ q ∧ 0 ≤ r ∧ 0 ≤ v ∧ v ≤ 15 ∧ 0 ≤ m ∧ m ≤ 14) ∨ (h = 1 ∧ (g = 1 ∨ (g = 0 ∧ (k < 0 ∨ m ≤ k))))) :
    Calls Tryd.prog 4 #[.int .i64 n, .int .i64 c, .int .i64 k] w fun e w' => e = .returned (.bool true) ∧ Below w.heap.size w w' := by
  rcases ok with ⟨g0, h0, q, r, s, e1, eA, e2, e3, e4, e5, e6, e7, e8, e9, v0, v1, m0, m1⟩ | ⟨h0, g0 | ⟨g0, hk | hk⟩⟩
  · exact holds_s0_o w n a W L cS cO cA cB n1 n2 a0 a5 W0 W1 h1 L0 L1 h2 c k m v A g h c1 c2 c3 g0 h0 q r s e1 eA e2 e3 e4 e5 e6 e7 e8 e9 v0 v1 m0 m1
  · exact holds_s0_n w n a W L cS cO cA cB n1 n2 a0 a5 W0 W1 h1 L0 L1 h2 c k m v A g h c1 c2 c3 g0 h0
  · exact holds_s0_u w n a W L cS cO cA cB n1 n2 a0 a5 W0 W1 h1 L0 L1 h2 c k m v A g h c1 c2 c3 g0 h0 hk
  · exact holds_s0_v w n a W L cS cO cA cB n1 n2 a0 a5 W0 W1 h1 L0 L1 h2 c k m v A g h c1 c2 c3 g0 h0 hk

theorem holds_s1_o (w : World) (n a W L : Int) (cS : Calls Tryd.prog 7 #[] w fun e w' => e = .returned (.bool true) ∧ w = w')
    (cO : Calls Tryd.prog 8 #[.int .i64 n] w fun e w' => e = .returned (.tuple #[.int .i64 a, .bool true]) ∧ w = w')
    (cA : Calls Tryd.prog 10 #[.int .i64 a] w fun e w' => e = .returned (.tuple #[.int .i64 W, .int .i64 0]) ∧ w = w')
    (cB : Calls Tryd.prog 10 #[.int .i64 (a - 1)] w fun e w' => e = .returned (.tuple #[.int .i64 L, .int .i64 1]) ∧ w = w')
    (n1 : 1 ≤ n) (n2 : n ≤ 120) (a0 : 0 ≤ a) (a5 : a ≤ 5) (W0 : 2 ≤ W) (W1 : W ≤ 15) (h1 : n ≤ 8 * W) (L0 : 0 ≤ L) (L1 : L ≤ 15) (h2 : 8 * L < n)
    (c k m v A : Int) (g h : Int)
    (c1 : Calls Tryd.prog 12 #[.int .i64 c] w fun e w' => e = .returned (.tuple #[.int .i64 m, .int .i64 g]) ∧ w = w')
    (c2 : Calls Tryd.prog 16 #[.int .i64 c, .int .i64 k] w fun e w' => e = .returned (.tuple #[.int .i64 A, .int .i64 h]) ∧ w = w')
    (c3 : Calls Tryd.prog 10 #[.int .i64 c] w fun e w' => e = .returned (.tuple #[.int .i64 v, .int .i64 g]) ∧ w = w')
    (g0 : g = 0) (h0 : h = 0) (q r s : Int) (e1 : v * k = q) (eA : A = 4 + q) (e2 : 4 + q + v ≤ 32) (e3 : v * m = r) (e4 : 4 + r ≤ 32) (e5 : v * (m + 1) = s) (e6 : 32 < 4 + s) (e7 : s ≤ 300) (e8 : 0 ≤ q) (e9 : 0 ≤ r) (v0 : 0 ≤ v) (v1 : v ≤ 15) (m0 : 0 ≤ m) (m1 : m ≤ 14) :
    Calls Tryd.prog 4 #[.int .i64 n, .int .i64 c, .int .i64 k] w fun e w' => e = .returned (.bool true) ∧ Below w.heap.size w w' := by
  subst g0 h0
  have x1 : IntKind.i64.wrap (8 * W) = 8 * W := IntWalk.i64_in _ ⟨by omega, by omega⟩
  have x2 : IntKind.i64.wrap (8 * L) = 8 * L := IntWalk.i64_in _ ⟨by omega, by omega⟩
  have x3 : IntKind.i64.wrap (a - 1) = a - 1 := IntWalk.i64_in _ ⟨by omega, by omega⟩
  subst eA
  have y1 : IntKind.i64.wrap (v * k) = q := by rw [e1]; exact IntWalk.i64_in _ ⟨by omega, by omega⟩
  have y2 : IntKind.i64.wrap (4 + q) = 4 + q := IntWalk.i64_in _ ⟨by omega, by omega⟩
  have y3 : IntKind.i64.wrap (4 + q + v) = 4 + q + v := IntWalk.i64_in _ ⟨by omega, by omega⟩
  have y4 : IntKind.i64.wrap (v * m) = r := by rw [e3]; exact IntWalk.i64_in _ ⟨by omega, by omega⟩
  have y5 : IntKind.i64.wrap (4 + r) = 4 + r := IntWalk.i64_in _ ⟨by omega, by omega⟩
  have y6 : IntKind.i64.wrap (m + 1) = m + 1 := IntWalk.i64_in _ ⟨by omega, by omega⟩
  have y7 : IntKind.i64.wrap (v * (m + 1)) = s := by rw [e5]; exact IntWalk.i64_in _ ⟨by omega, by omega⟩
  have y8 : IntKind.i64.wrap (4 + s) = 4 + s := IntWalk.i64_in _ ⟨by omega, by omega⟩
  clear e1 e3 e5
  go_enter Tryd.func4, Tryd.ntmps4
  go_wp2_with (first
    | (go_at_call 7; with_reducible refine cS.mono ?_; rintro e w' ⟨rfl, rfl⟩)
    | (go_at_call 8; with_reducible refine cO.mono ?_; rintro e w' ⟨rfl, rfl⟩)
    | (go_at_call 10; with_reducible refine cA.mono ?_; rintro e w' ⟨rfl, rfl⟩)
    | (go_at_call 10; with_reducible refine cB.mono ?_; rintro e w' ⟨rfl, rfl⟩)
    | (go_at_call 10; with_reducible refine c3.mono ?_; rintro e w' ⟨rfl, rfl⟩)
    | (go_at_call 12; with_reducible refine c1.mono ?_; rintro e w' ⟨rfl, rfl⟩)
    | (go_at_call 16; with_reducible refine c2.mono ?_; rintro e w' ⟨rfl, rfl⟩))
  all_goals first | (go_ret; exact ⟨rfl, Below.refl _ _⟩) | (exfalso; omega)
theorem holds_s1_n (w : World) (n a W L : Int) (cS : Calls Tryd.prog 7 #[] w fun e w' => e = .returned (.bool true) ∧ w = w')
    (cO : Calls Tryd.prog 8 #[.int .i64 n] w fun e w' => e = .returned (.tuple #[.int .i64 a, .bool true]) ∧ w = w')
    (cA : Calls Tryd.prog 10 #[.int .i64 a] w fun e w' => e = .returned (.tuple #[.int .i64 W, .int .i64 0]) ∧ w = w')
    (cB : Calls Tryd.prog 10 #[.int .i64 (a - 1)] w fun e w' => e = .returned (.tuple #[.int .i64 L, .int .i64 1]) ∧ w = w')
    (n1 : 1 ≤ n) (n2 : n ≤ 120) (a0 : 0 ≤ a) (a5 : a ≤ 5) (W0 : 2 ≤ W) (W1 : W ≤ 15) (h1 : n ≤ 8 * W) (L0 : 0 ≤ L) (L1 : L ≤ 15) (h2 : 8 * L < n)
    (c k m v A : Int) (g h : Int)
    (c1 : Calls Tryd.prog 12 #[.int .i64 c] w fun e w' => e = .returned (.tuple #[.int .i64 m, .int .i64 g]) ∧ w = w')
    (c2 : Calls Tryd.prog 16 #[.int .i64 c, .int .i64 k] w fun e w' => e = .returned (.tuple #[.int .i64 A, .int .i64 h]) ∧ w = w')
    (c3 : Calls Tryd.prog 10 #[.int .i64 c] w fun e w' => e = .returned (.tuple #[.int .i64 v, .int .i64 g]) ∧ w = w')
    (g0 : g = 1) (h0 : h = 1) :
    Calls Tryd.prog 4 #[.int .i64 n, .int .i64 c, .int .i64 k] w fun e w' => e = .returned (.bool true) ∧ Below w.heap.size w w' := by
  subst g0 h0
  have x1 : IntKind.i64.wrap (8 * W) = 8 * W := IntWalk.i64_in _ ⟨by omega, by omega⟩
  have x2 : IntKind.i64.wrap (8 * L) = 8 * L := IntWalk.i64_in _ ⟨by omega, by omega⟩
  have x3 : IntKind.i64.wrap (a - 1) = a - 1 := IntWalk.i64_in _ ⟨by omega, by omega⟩
  go_enter Tryd.func4, Tryd.ntmps4
  go_wp2_with (first
    | (go_at_call 7; with_reducible refine cS.mono ?_; rintro e w' ⟨rfl, rfl⟩)
    | (go_at_call 8; with_reducible refine cO.mono ?_; rintro e w' ⟨rfl, rfl⟩)
    | (go_at_call 10; with_reducible refine cA.mono ?_; rintro e w' ⟨rfl, rfl⟩)
    | (go_at_call 10; with_reducible refine cB.mono ?_; rintro e w' ⟨rfl, rfl⟩)
    | (go_at_call 10; with_reducible refine c3.mono ?_; rintro e w' ⟨rfl, rfl⟩)
    | (go_at_call 12; with_reducible refine c1.mono ?_; rintro e w' ⟨rfl, rfl⟩)
    | (go_at_call 16; with_reducible refine c2.mono ?_; rintro e w' ⟨rfl, rfl⟩))
  all_goals first | (go_ret; exact ⟨rfl, Below.refl _ _⟩) | (exfalso; omega)
theorem holds_s1_u (w : World) (n a W L : Int) (cS : Calls Tryd.prog 7 #[] w fun e w' => e = .returned (.bool true) ∧ w = w')
    (cO : Calls Tryd.prog 8 #[.int .i64 n] w fun e w' => e = .returned (.tuple #[.int .i64 a, .bool true]) ∧ w = w')
    (cA : Calls Tryd.prog 10 #[.int .i64 a] w fun e w' => e = .returned (.tuple #[.int .i64 W, .int .i64 0]) ∧ w = w')
    (cB : Calls Tryd.prog 10 #[.int .i64 (a - 1)] w fun e w' => e = .returned (.tuple #[.int .i64 L, .int .i64 1]) ∧ w = w')
    (n1 : 1 ≤ n) (n2 : n ≤ 120) (a0 : 0 ≤ a) (a5 : a ≤ 5) (W0 : 2 ≤ W) (W1 : W ≤ 15) (h1 : n ≤ 8 * W) (L0 : 0 ≤ L) (L1 : L ≤ 15) (h2 : 8 * L < n)
    (c k m v A : Int) (g h : Int)
    (c1 : Calls Tryd.prog 12 #[.int .i64 c] w fun e w' => e = .returned (.tuple #[.int .i64 m, .int .i64 g]) ∧ w = w')
    (c2 : Calls Tryd.prog 16 #[.int .i64 c, .int .i64 k] w fun e w' => e = .returned (.tuple #[.int .i64 A, .int .i64 h]) ∧ w = w')
    (c3 : Calls Tryd.prog 10 #[.int .i64 c] w fun e w' => e = .returned (.tuple #[.int .i64 v, .int .i64 g]) ∧ w = w')
    (g0 : g = 0) (h0 : h = 1) (hk : k < 0) :
    Calls Tryd.prog 4 #[.int .i64 n, .int .i64 c, .int .i64 k] w fun e w' => e = .returned (.bool true) ∧ Below w.heap.size w w' := by
  subst g0 h0
  have x1 : IntKind.i64.wrap (8 * W) = 8 * W := IntWalk.i64_in _ ⟨by omega, by omega⟩
  have x2 : IntKind.i64.wrap (8 * L) = 8 * L := IntWalk.i64_in _ ⟨by omega, by omega⟩
  have x3 : IntKind.i64.wrap (a - 1) = a - 1 := IntWalk.i64_in _ ⟨by omega, by omega⟩
  go_enter Tryd.func4, Tryd.ntmps4
  go_wp2_with (first
    | (go_at_call 7; with_reducible refine cS.mono ?_; rintro e w' ⟨rfl, rfl⟩)
    | (go_at_call 8; with_reducible refine cO.mono ?_; rintro e w' ⟨rfl, rfl⟩)
    | (go_at_call 10; with_reducible refine cA.mono ?_; rintro e w' ⟨rfl, rfl⟩)
    | (go_at_call 10; with_reducible refine cB.mono ?_; rintro e w' ⟨rfl, rfl⟩)
    | (go_at_call 10; with_reducible refine c3.mono ?_; rintro e w' ⟨rfl, rfl⟩)
    | (go_at_call 12; with_reducible refine c1.mono ?_; rintro e w' ⟨rfl, rfl⟩)
    | (go_at_call 16; with_reducible refine c2.mono ?_; rintro e w' ⟨rfl, rfl⟩))
  all_goals first | (go_ret; exact ⟨rfl, Below.refl _ _⟩) | (exfalso; omega)
theorem holds_s1_v (w : World) (n a W L : Int) (cS : Calls Tryd.prog 7 #[] w fun e w' => e = .returned (.bool true) ∧ w = w')
    (cO : Calls Tryd.prog 8 #[.int .i64 n] w fun e w' => e = .returned (.tuple #[.int .i64 a, .bool true]) ∧ w = w')
    (cA : Calls Tryd.prog 10 #[.int .i64 a] w fun e w' => e = .returned (.tuple #[.int .i64 W, .int .i64 0]) ∧ w = w')
    (cB : Calls Tryd.prog 10 #[.int .i64 (a - 1)] w fun e w' => e = .returned (.tuple #[.int .i64 L, .int .i64 1]) ∧ w = w')
    (n1 : 1 ≤ n) (n2 : n ≤ 120) (a0 : 0 ≤ a) (a5 : a ≤ 5) (W0 : 2 ≤ W) (W1 : W ≤ 15) (h1 : n ≤ 8 * W) (L0 : 0 ≤ L) (L1 : L ≤ 15) (h2 : 8 * L < n)
    (c k m v A : Int) (g h : Int)
    (c1 : Calls Tryd.prog 12 #[.int .i64 c] w fun e w' => e = .returned (.tuple #[.int .i64 m, .int .i64 g]) ∧ w = w')
    (c2 : Calls Tryd.prog 16 #[.int .i64 c, .int .i64 k] w fun e w' => e = .returned (.tuple #[.int .i64 A, .int .i64 h]) ∧ w = w')
    (c3 : Calls Tryd.prog 10 #[.int .i64 c] w fun e w' => e = .returned (.tuple #[.int .i64 v, .int .i64 g]) ∧ w = w')
    (g0 : g = 0) (h0 : h = 1) (hk : m ≤ k) :
    Calls Tryd.prog 4 #[.int .i64 n, .int .i64 c, .int .i64 k] w fun e w' => e = .returned (.bool true) ∧ Below w.heap.size w w' := by
  subst g0 h0
  have x1 : IntKind.i64.wrap (8 * W) = 8 * W := IntWalk.i64_in _ ⟨by omega, by omega⟩
  have x2 : IntKind.i64.wrap (8 * L) = 8 * L := IntWalk.i64_in _ ⟨by omega, by omega⟩
  have x3 : IntKind.i64.wrap (a - 1) = a - 1 := IntWalk.i64_in _ ⟨by omega, by omega⟩
  go_enter Tryd.func4, Tryd.ntmps4
  go_wp2_with (first
    | (go_at_call 7; with_reducible refine cS.mono ?_; rintro e w' ⟨rfl, rfl⟩)
    | (go_at_call 8; with_reducible refine cO.mono ?_; rintro e w' ⟨rfl, rfl⟩)
    | (go_at_call 10; with_reducible refine cA.mono ?_; rintro e w' ⟨rfl, rfl⟩)
    | (go_at_call 10; with_reducible refine cB.mono ?_; rintro e w' ⟨rfl, rfl⟩)
    | (go_at_call 10; with_reducible refine c3.mono ?_; rintro e w' ⟨rfl, rfl⟩)
    | (go_at_call 12; with_reducible refine c1.mono ?_; rintro e w' ⟨rfl, rfl⟩)
    | (go_at_call 16; with_reducible refine c2.mono ?_; rintro e w' ⟨rfl, rfl⟩))
  all_goals first | (go_ret; exact ⟨rfl, Below.refl _ _⟩) | (exfalso; omega)
theorem holds_s1 (w : World) (n a W L : Int) (cS : Calls Tryd.prog 7 #[] w fun e w' => e = .returned (.bool true) ∧ w = w')
    (cO : Calls Tryd.prog 8 #[.int .i64 n] w fun e w' => e = .returned (.tuple #[.int .i64 a, .bool true]) ∧ w = w')
    (cA : Calls Tryd.prog 10 #[.int .i64 a] w fun e w' => e = .returned (.tuple #[.int .i64 W, .int .i64 0]) ∧ w = w')
    (cB : Calls Tryd.prog 10 #[.int .i64 (a - 1)] w fun e w' => e = .returned (.tuple #[.int .i64 L, .int .i64 1]) ∧ w = w')
    (n1 : 1 ≤ n) (n2 : n ≤ 120) (a0 : 0 ≤ a) (a5 : a ≤ 5) (W0 : 2 ≤ W) (W1 : W ≤ 15) (h1 : n ≤ 8 * W) (L0 : 0 ≤ L) (L1 : L ≤ 15) (h2 : 8 * L < n)
    (c k m v A : Int) (g h : Int)
    (c1 : Calls Tryd.prog 12 #[.int .i64 c] w fun e w' => e = .returned (.tuple #[.int .i64 m, .int .i64 g]) ∧ w = w')
    (c2 : Calls Tryd.prog 16 #[.int .i64 c, .int .i64 k] w fun e w' => e = .returned (.tuple #[.int .i64 A, .int .i64 h]) ∧ w = w')
    (c3 : Calls Tryd.prog 10 #[.int .i64 c] w fun e w' => e = .returned (.tuple #[.int .i64 v, .int .i64 g]) ∧ w = w')
    (ok : (g = 0 ∧ h = 0 ∧ ∃ q r s : Int, v * k = q ∧ A = 4 + q ∧ 4 + q + v ≤ 32 ∧ v * m = r ∧ 4 + r ≤ 32 ∧ v * (m + 1) = s ∧ 32 < 4 + s ∧ s ≤ 300 ∧ 0 ≤ q ∧ 0 ≤ r ∧ 0 ≤ v ∧ v ≤ 15 ∧ 0 ≤ m ∧ m ≤ 14) ∨ (h = 1 ∧ (g = 1 ∨ (g = 0 ∧ (k < 0 ∨ m ≤ k))))) :
    Calls Tryd.prog 4 #[.int .i64 n, .int .i64 c, .int .i64 k] w fun e w' => e = .returned (.bool true) ∧ Below w.heap.size w w' := by
  rcases ok with ⟨g0, h0, q, r, s, e1, eA, e2, e3, e4, e5, e6, e7, e8, e9, v0, v1, m0, m1⟩ | ⟨h0, g0 | ⟨g0, hk | hk⟩⟩
  · exact holds_s1_o w n a W L cS cO cA cB n1 n2 a0 a5 W0 W1 h1 L0 L1 h2 c k m v A g h c1 c2 c3 g0 h0 q r s e1 eA e2 e3 e4 e5 e6 e7 e8 e9 v0 v1 m0 m1
  · exact holds_s1_n w n a W L cS cO cA cB n1 n2 a0 a5 W0 W1 h1 L0 L1 h2 c k m v A g h c1 c2 c3 g0 h0
  · exact holds_s1_u w n a W L cS cO cA cB n1 n2 a0 a5 W0 W1 h1 L0 L1 h2 c k m v A g h c1 c2 c3 g0 h0 hk
  · exact holds_s1_v w n a W L cS cO cA cB n1 n2 a0 a5 W0 W1 h1 L0 L1 h2 c k m v A g h c1 c2 c3 g0 h0 hk

theorem holds_l_o (w : World) (n p : Int) (cS : Calls Tryd.prog 7 #[] w fun e w' => e = .returned (.bool true) ∧ w = w')
    (cO : Calls Tryd.prog 8 #[.int .i64 n] w fun e w' => e = .returned (.tuple #[.int .i64 0, .bool false]) ∧ w = w')
    (cA : Calls Tryd.prog 10 #[.int .i64 0] w fun e w' => e = .returned (.tuple #[.int .i64 2, .int .i64 0]) ∧ w = w')
    (cP : Calls Tryd.prog 14 #[.int .i64 n] w fun e w' => e = .returned (.tuple #[.int .i64 p, .int .i64 0]) ∧ w = w')
    (n1 : 120 < n) (n2 : n ≤ 2048) (p0 : 1 ≤ p) (p1 : p ≤ 8) (h1 : n ≤ 256 * p) (h2 : 256 * (p - 1) < n)
    (c k m v A : Int) (g h : Int)
    (c1 : Calls Tryd.prog 12 #[.int .i64 c] w fun e w' => e = .returned (.tuple #[.int .i64 m, .int .i64 g]) ∧ w = w')
    (c2 : Calls Tryd.prog 16 #[.int .i64 c, .int .i64 k] w fun e w' => e = .returned (.tuple #[.int .i64 A, .int .i64 h]) ∧ w = w')
    (c3 : Calls Tryd.prog 10 #[.int .i64 c] w fun e w' => e = .returned (.tuple #[.int .i64 v, .int .i64 g]) ∧ w = w')
    (g0 : g = 0) (h0 : h = 0) (q r s : Int) (e1 : v * k = q) (eA : A = 4 + q) (e2 : 4 + q + v ≤ 32) (e3 : v * m = r) (e4 : 4 + r ≤ 32) (e5 : v * (m + 1) = s) (e6 : 32 < 4 + s) (e7 : s ≤ 300) (e8 : 0 ≤ q) (e9 : 0 ≤ r) (v0 : 0 ≤ v) (v1 : v ≤ 15) (m0 : 0 ≤ m) (m1 : m ≤ 14) :
    Calls Tryd.prog 4 #[.int .i64 n, .int .i64 c, .int .i64 k] w fun e w' => e = .returned (.bool true) ∧ Below w.heap.size w w' := by
  subst g0 h0
  have x1 : IntKind.i64.wrap (256 * p) = 256 * p := IntWalk.i64_in _ ⟨by omega, by omega⟩
  have x2 : IntKind.i64.wrap (p - 1) = p - 1 := IntWalk.i64_in _ ⟨by omega, by omega⟩
  have x3 : IntKind.i64.wrap (256 * (p - 1)) = 256 * (p - 1) := IntWalk.i64_in _ ⟨by omega, by omega⟩
  subst eA
  have y1 : IntKind.i64.wrap (v * k) = q := by rw [e1]; exact IntWalk.i64_in _ ⟨by omega, by omega⟩
  have y2 : IntKind.i64.wrap (4 + q) = 4 + q := IntWalk.i64_in _ ⟨by omega, by omega⟩
  have y3 : IntKind.i64.wrap (4 + q + v) = 4 + q + v := IntWalk.i64_in _ ⟨by omega, by omega⟩
  have y4 : IntKind.i64.wrap (v * m) = r := by rw [e3]; exact IntWalk.i64_in _ ⟨by omega, by omega⟩
  have y5 : IntKind.i64.wrap (4 + r) = 4 + r := IntWalk.i64_in _ ⟨by omega, by omega⟩
  have y6 : IntKind.i64.wrap (m + 1) = m + 1 := IntWalk.i64_in _ ⟨by omega, by omega⟩
  have y7 : IntKind.i64.wrap (v * (m + 1)) = s := by rw [e5]; exact IntWalk.i64_in _ ⟨by omega, by omega⟩
  have y8 : IntKind.i64.wrap (4 + s) = 4 + s := IntWalk.i64_in _ ⟨by omega, by omega⟩
  clear e1 e3 e5
  go_enter Tryd.func4, Tryd.ntmps4
  go_wp2_with (first
    | (go_at_call 7; with_reducible refine cS.mono ?_; rintro e w' ⟨rfl, rfl⟩)
    | (go_at_call 8; with_reducible refine cO.mono ?_; rintro e w' ⟨rfl, rfl⟩)
    | (go_at_call 10; with_reducible refine cA.mono ?_; rintro e w' ⟨rfl, rfl⟩)
    | (go_at_call 10; with_reducible refine c3.mono ?_; rintro e w' ⟨rfl, rfl⟩)
    | (go_at_call 14; with_reducible refine cP.mono ?_; rintro e w' ⟨rfl, rfl⟩)
    | (go_at_call 12; with_reducible refine c1.mono ?_; rintro e w' ⟨rfl, rfl⟩)
    | (go_at_call 16; with_reducible refine c2.mono ?_; rintro e w' ⟨rfl, rfl⟩))
  all_goals first | (go_ret; exact ⟨rfl, Below.refl _ _⟩) | (exfalso; omega)
theorem holds_l_n (w : World) (n p : Int) (cS : Calls Tryd.prog 7 #[] w fun e w' => e = .returned (.bool true) ∧ w = w')
    (cO : Calls Tryd.prog 8 #[.int .i64 n] w fun e w' => e = .returned (.tuple #[.int .i64 0, .bool false]) ∧ w = w')
    (cA : Calls Tryd.prog 10 #[.int .i64 0] w fun e w' => e = .returned (.tuple #[.int .i64 2, .int .i64 0]) ∧ w = w')
    (cP : Calls Tryd.prog 14 #[.int .i64 n] w fun e w' => e = .returned (.tuple #[.int .i64 p, .int .i64 0]) ∧ w = w')
    (n1 : 120 < n) (n2 : n ≤ 2048) (p0 : 1 ≤ p) (p1 : p ≤ 8) (h1 : n ≤ 256 * p) (h2 : 256 * (p - 1) < n)
    (c k m v A : Int) (g h : Int)
    (c1 : Calls Tryd.prog 12 #[.int .i64 c] w fun e w' => e = .returned (.tuple #[.int .i64 m, .int .i64 g]) ∧ w = w')
    (c2 : Calls Tryd.prog 16 #[.int .i64 c, .int .i64 k] w fun e w' => e = .returned (.tuple #[.int .i64 A, .int .i64 h]) ∧ w = w')
    (c3 : Calls Tryd.prog 10 #[.int .i64 c] w fun e w' => e = .returned (.tuple #[.int .i64 v, .int .i64 g]) ∧ w = w')
    (g0 : g = 1) (h0 : h = 1) :
    Calls Tryd.prog 4 #[.int .i64 n, .int .i64 c, .int .i64 k] w fun e w' => e = .returned (.bool true) ∧ Below w.heap.size w w' := by
  subst g0 h0
  have x1 : IntKind.i64.wrap (256 * p) = 256 * p := IntWalk.i64_in _ ⟨by omega, by omega⟩
  have x2 : IntKind.i64.wrap (p - 1) = p - 1 := IntWalk.i64_in _ ⟨by omega, by omega⟩
  have x3 : IntKind.i64.wrap (256 * (p - 1)) = 256 * (p - 1) := IntWalk.i64_in _ ⟨by omega, by omega⟩
  go_enter Tryd.func4, Tryd.ntmps4
  go_wp2_with (first
    | (go_at_call 7; with_reducible refine cS.mono ?_; rintro e w' ⟨rfl, rfl⟩)
    | (go_at_call 8; with_reducible refine cO.mono ?_; rintro e w' ⟨rfl, rfl⟩)
    | (go_at_call 10; with_reducible refine cA.mono ?_; rintro e w' ⟨rfl, rfl⟩)
    | (go_at_call 10; with_reducible refine c3.mono ?_; rintro e w' ⟨rfl, rfl⟩)
    | (go_at_call 14; with_reducible refine cP.mono ?_; rintro e w' ⟨rfl, rfl⟩)
    | (go_at_call 12; with_reducible refine c1.mono ?_; rintro e w' ⟨rfl, rfl⟩)
    | (go_at_call 16; with_reducible refine c2.mono ?_; rintro e w' ⟨rfl, rfl⟩))
  all_goals first | (go_ret; exact ⟨rfl, Below.refl _ _⟩) | (exfalso; omega)
theorem holds_l_u (w : World) (n p : Int) (cS : Calls Tryd.prog 7 #[] w fun e w' => e = .returned (.bool true) ∧ w = w')
    (cO : Calls Tryd.prog 8 #[.int .i64 n] w fun e w' => e = .returned (.tuple #[.int .i64 0, .bool false]) ∧ w = w')
    (cA : Calls Tryd.prog 10 #[.int .i64 0] w fun e w' => e = .returned (.tuple #[.int .i64 2, .int .i64 0]) ∧ w = w')
    (cP : Calls Tryd.prog 14 #[.int .i64 n] w fun e w' => e = .returned (.tuple #[.int .i64 p, .int .i64 0]) ∧ w = w')
    (n1 : 120 < n) (n2 : n ≤ 2048) (p0 : 1 ≤ p) (p1 : p ≤ 8) (h1 : n ≤ 256 * p) (h2 : 256 * (p - 1) < n)
    (c k m v A : Int) (g h : Int)
    (c1 : Calls Tryd.prog 12 #[.int .i64 c] w fun e w' => e = .returned (.tuple #[.int .i64 m, .int .i64 g]) ∧ w = w')
    (c2 : Calls Tryd.prog 16 #[.int .i64 c, .int .i64 k] w fun e w' => e = .returned (.tuple #[.int .i64 A, .int .i64 h]) ∧ w = w')
    (c3 : Calls Tryd.prog 10 #[.int .i64 c] w fun e w' => e = .returned (.tuple #[.int .i64 v, .int .i64 g]) ∧ w = w')
    (g0 : g = 0) (h0 : h = 1) (hk : k < 0) :
    Calls Tryd.prog 4 #[.int .i64 n, .int .i64 c, .int .i64 k] w fun e w' => e = .returned (.bool true) ∧ Below w.heap.size w w' := by
  subst g0 h0
  have x1 : IntKind.i64.wrap (256 * p) = 256 * p := IntWalk.i64_in _ ⟨by omega, by omega⟩
  have x2 : IntKind.i64.wrap (p - 1) = p - 1 := IntWalk.i64_in _ ⟨by omega, by omega⟩
  have x3 : IntKind.i64.wrap (256 * (p - 1)) = 256 * (p - 1) := IntWalk.i64_in _ ⟨by omega, by omega⟩
  go_enter Tryd.func4, Tryd.ntmps4
  go_wp2_with (first
    | (go_at_call 7; with_reducible refine cS.mono ?_; rintro e w' ⟨rfl, rfl⟩)
    | (go_at_call 8; with_reducible refine cO.mono ?_; rintro e w' ⟨rfl, rfl⟩)
    | (go_at_call 10; with_reducible refine cA.mono ?_; rintro e w' ⟨rfl, rfl⟩)
    | (go_at_call 10; with_reducible refine c3.mono ?_; rintro e w' ⟨rfl, rfl⟩)
    | (go_at_call 14; with_reducible refine cP.mono ?_; rintro e w' ⟨rfl, rfl⟩)
    | (go_at_call 12; with_reducible refine c1.mono ?_; rintro e w' ⟨rfl, rfl⟩)
    | (go_at_call 16; with_reducible refine c2.mono ?_; rintro e w' ⟨rfl, rfl⟩))
  all_goals first | (go_ret; exact ⟨rfl, Below.refl _ _⟩) | (exfalso; omega)
theorem holds_l_v (w : World) (n p : Int) (cS : Calls Tryd.prog 7 #[] w fun e w' => e = .returned (.bool true) ∧ w = w')
    (cO : Calls Tryd.prog 8 #[.int .i64 n] w fun e w' => e = .returned (.tuple #[.int .i64 0, .bool false]) ∧ w = w')
    (cA : Calls Tryd.prog 10 #[.int .i64 0] w fun e w' => e = .returned (.tuple #[.int .i64 2, .int .i64 0]) ∧ w = w')
    (cP : Calls Tryd.prog 14 #[.int .i64 n] w fun e w' => e = .returned (.tuple #[.int .i64 p, .int .i64 0]) ∧ w = w')
    (n1 : 120 < n) (n2 : n ≤ 2048) (p0 : 1 ≤ p) (p1 : p ≤ 8) (h1 : n ≤ 256 * p) (h2 : 256 * (p - 1) < n)
    (c k m v A : Int) (g h : Int)
    (c1 : Calls Tryd.prog 12 #[.int .i64 c] w fun e w' => e = .returned (.tuple #[.int .i64 m, .int .i64 g]) ∧ w = w')
    (c2 : Calls Tryd.prog 16 #[.int .i64 c, .int .i64 k] w fun e w' => e = .returned (.tuple #[.int .i64 A, .int .i64 h]) ∧ w = w')
    (c3 : Calls Tryd.prog 10 #[.int .i64 c] w fun e w' => e = .returned (.tuple #[.int .i64 v, .int .i64 g]) ∧ w = w')
    (g0 : g = 0) (h0 : h = 1) (hk : m ≤ k) :
    Calls Tryd.prog 4 #[.int .i64 n, .int .i64 c, .int .i64 k] w fun e w' => e = .returned (.bool true) ∧ Below w.heap.size w w' := by
  subst g0 h0
  have x1 : IntKind.i64.wrap (256 * p) = 256 * p := IntWalk.i64_in _ ⟨by omega, by omega⟩
  have x2 : IntKind.i64.wrap (p - 1) = p - 1 := IntWalk.i64_in _ ⟨by omega, by omega⟩
  have x3 : IntKind.i64.wrap (256 * (p - 1)) = 256 * (p - 1) := IntWalk.i64_in _ ⟨by omega, by omega⟩
  go_enter Tryd.func4, Tryd.ntmps4
  go_wp2_with (first
    | (go_at_call 7; with_reducible refine cS.mono ?_; rintro e w' ⟨rfl, rfl⟩)
    | (go_at_call 8; with_reducible refine cO.mono ?_; rintro e w' ⟨rfl, rfl⟩)
    | (go_at_call 10; with_reducible refine cA.mono ?_; rintro e w' ⟨rfl, rfl⟩)
    | (go_at_call 10; with_reducible refine c3.mono ?_; rintro e w' ⟨rfl, rfl⟩)
    | (go_at_call 14; with_reducible refine cP.mono ?_; rintro e w' ⟨rfl, rfl⟩)
    | (go_at_call 12; with_reducible refine c1.mono ?_; rintro e w' ⟨rfl, rfl⟩)
    | (go_at_call 16; with_reducible refine c2.mono ?_; rintro e w' ⟨rfl, rfl⟩))
  all_goals first | (go_ret; exact ⟨rfl, Below.refl _ _⟩) | (exfalso; omega)
theorem holds_l (w : World) (n p : Int) (cS : Calls Tryd.prog 7 #[] w fun e w' => e = .returned (.bool true) ∧ w = w')
    (cO : Calls Tryd.prog 8 #[.int .i64 n] w fun e w' => e = .returned (.tuple #[.int .i64 0, .bool false]) ∧ w = w')
    (cA : Calls Tryd.prog 10 #[.int .i64 0] w fun e w' => e = .returned (.tuple #[.int .i64 2, .int .i64 0]) ∧ w = w')
    (cP : Calls Tryd.prog 14 #[.int .i64 n] w fun e w' => e = .returned (.tuple #[.int .i64 p, .int .i64 0]) ∧ w = w')
    (n1 : 120 < n) (n2 : n ≤ 2048) (p0 : 1 ≤ p) (p1 : p ≤ 8) (h1 : n ≤ 256 * p) (h2 : 256 * (p - 1) < n)
    (c k m v A : Int) (g h : Int)
    (c1 : Calls Tryd.prog 12 #[.int .i64 c] w fun e w' => e = .returned (.tuple #[.int .i64 m, .int .i64 g]) ∧ w = w')
    (c2 : Calls Tryd.prog 16 #[.int .i64 c, .int .i64 k] w fun e w' => e = .returned (.tuple #[.int .i64 A, .int .i64 h]) ∧ w = w')
    (c3 : Calls Tryd.prog 10 #[.int .i64 c] w fun e w' => e = .returned (.tuple #[.int .i64 v, .int .i64 g]) ∧ w = w')
    (ok : (g = 0 ∧ h = 0 ∧ ∃ q r s : Int, v * k = q ∧ A = 4 + q ∧ 4 + q + v ≤ 32 ∧ v * m = r ∧ 4 + r ≤ 32 ∧ v * (m + 1) = s ∧ 32 < 4 + s ∧ s ≤ 300 ∧ 0 ≤ q ∧ 0 ≤ r ∧ 0 ≤ v ∧ v ≤ 15 ∧ 0 ≤ m ∧ m ≤ 14) ∨ (h = 1 ∧ (g = 1 ∨ (g = 0 ∧ (k < 0 ∨ m ≤ k))))) :
    Calls Tryd.prog 4 #[.int .i64 n, .int .i64 c, .int .i64 k] w fun e w' => e = .returned (.bool true) ∧ Below w.heap.size w w' := by
  rcases ok with ⟨g0, h0, q, r, s, e1, eA, e2, e3, e4, e5, e6, e7, e8, e9, v0, v1, m0, m1⟩ | ⟨h0, g0 | ⟨g0, hk | hk⟩⟩
  · exact holds_l_o w n p cS cO cA cP n1 n2 p0 p1 h1 h2 c k m v A g h c1 c2 c3 g0 h0 q r s e1 eA e2 e3 e4 e5 e6 e7 e8 e9 v0 v1 m0 m1
  · exact holds_l_n w n p cS cO cA cP n1 n2 p0 p1 h1 h2 c k m v A g h c1 c2 c3 g0 h0
  · exact holds_l_u w n p cS cO cA cP n1 n2 p0 p1 h1 h2 c k m v A g h c1 c2 c3 g0 h0 hk
  · exact holds_l_v w n p cS cO cA cP n1 n2 p0 p1 h1 h2 c k m v A g h c1 c2 c3 g0 h0 hk

theorem holds_b_o (w : World) (n : Int) (cS : Calls Tryd.prog 7 #[] w fun e w' => e = .returned (.bool true) ∧ w = w')
    (cO : Calls Tryd.prog 8 #[.int .i64 n] w fun e w' => e = .returned (.tuple #[.int .i64 0, .bool false]) ∧ w = w')
    (cA : Calls Tryd.prog 10 #[.int .i64 0] w fun e w' => e = .returned (.tuple #[.int .i64 2, .int .i64 0]) ∧ w = w')
    (cP : Calls Tryd.prog 14 #[.int .i64 n] w fun e w' => e = .returned (.tuple #[.int .i64 0, .int .i64 1]) ∧ w = w')
    (n1 : n < 1)
    (c k m v A : Int) (g h : Int)
    (c1 : Calls Tryd.prog 12 #[.int .i64 c] w fun e w' => e = .returned (.tuple #[.int .i64 m, .int .i64 g]) ∧ w = w')
    (c2 : Calls Tryd.prog 16 #[.int .i64 c, .int .i64 k] w fun e w' => e = .returned (.tuple #[.int .i64 A, .int .i64 h]) ∧ w = w')
    (c3 : Calls Tryd.prog 10 #[.int .i64 c] w fun e w' => e = .returned (.tuple #[.int .i64 v, .int .i64 g]) ∧ w = w')
    (g0 : g = 0) (h0 : h = 0) (q r s : Int) (e1 : v * k = q) (eA : A = 4 + q) (e2 : 4 + q + v ≤ 32) (e3 : v * m = r) (e4 : 4 + r ≤ 32) (e5 : v * (m + 1) = s) (e6 : 32 < 4 + s) (e7 : s ≤ 300) (e8 : 0 ≤ q) (e9 : 0 ≤ r) (v0 : 0 ≤ v) (v1 : v ≤ 15) (m0 : 0 ≤ m) (m1 : m ≤ 14) :
    Calls Tryd.prog 4 #[.int .i64 n, .int .i64 c, .int .i64 k] w fun e w' => e = .returned (.bool true) ∧ Below w.heap.size w w' := by
  subst g0 h0
  subst eA
  have y1 : IntKind.i64.wrap (v * k) = q := by rw [e1]; exact IntWalk.i64_in _ ⟨by omega, by omega⟩
  have y2 : IntKind.i64.wrap (4 + q) = 4 + q := IntWalk.i64_in _ ⟨by omega, by omega⟩
  have y3 : IntKind.i64.wrap (4 + q + v) = 4 + q + v := IntWalk.i64_in _ ⟨by omega, by omega⟩
  have y4 : IntKind.i64.wrap (v * m) = r := by rw [e3]; exact IntWalk.i64_in _ ⟨by omega, by omega⟩
  have y5 : IntKind.i64.wrap (4 + r) = 4 + r := IntWalk.i64_in _ ⟨by omega, by omega⟩
  have y6 : IntKind.i64.wrap (m + 1) = m + 1 := IntWalk.i64_in _ ⟨by omega, by omega⟩
  have y7 : IntKind.i64.wrap (v * (m + 1)) = s := by rw [e5]; exact IntWalk.i64_in _ ⟨by omega, by omega⟩
  have y8 : IntKind.i64.wrap (4 + s) = 4 + s := IntWalk.i64_in _ ⟨by omega, by omega⟩
  clear e1 e3 e5
  go_enter Tryd.func4, Tryd.ntmps4
  go_wp2_with (first
    | (go_at_call 7; with_reducible refine cS.mono ?_; rintro e w' ⟨rfl, rfl⟩)
    | (go_at_call 8; with_reducible refine cO.mono ?_; rintro e w' ⟨rfl, rfl⟩)
    | (go_at_call 10; with_reducible refine cA.mono ?_; rintro e w' ⟨rfl, rfl⟩)
    | (go_at_call 10; with_reducible refine c3.mono ?_; rintro e w' ⟨rfl, rfl⟩)
    | (go_at_call 14; with_reducible refine cP.mono ?_; rintro e w' ⟨rfl, rfl⟩)
    | (go_at_call 12; with_reducible refine c1.mono ?_; rintro e w' ⟨rfl, rfl⟩)
    | (go_at_call 16; with_reducible refine c2.mono ?_; rintro e w' ⟨rfl, rfl⟩))
  all_goals first | (go_ret; exact ⟨rfl, Below.refl _ _⟩) | (exfalso; omega)
theorem holds_b_n (w : World) (n : Int) (cS : Calls Tryd.prog 7 #[] w fun e w' => e = .returned (.bool true) ∧ w = w')
    (cO : Calls Tryd.prog 8 #[.int .i64 n] w fun e w' => e = .returned (.tuple #[.int .i64 0, .bool false]) ∧ w = w')
    (cA : Calls Tryd.prog 10 #[.int .i64 0] w fun e w' => e = .returned (.tuple #[.int .i64 2, .int .i64 0]) ∧ w = w')
    (cP : Calls Tryd.prog 14 #[.int .i64 n] w fun e w' => e = .returned (.tuple #[.int .i64 0, .int .i64 1]) ∧ w = w')
    (n1 : n < 1)
    (c k m v A : Int) (g h : Int)
    (c1 : Calls Tryd.prog 12 #[.int .i64 c] w fun e w' => e = .returned (.tuple #[.int .i64 m, .int .i64 g]) ∧ w = w')
    (c2 : Calls Tryd.prog 16 #[.int .i64 c, .int .i64 k] w fun e w' => e = .returned (.tuple #[.int .i64 A, .int .i64 h]) ∧ w = w')
    (c3 : Calls Tryd.prog 10 #[.int .i64 c] w fun e w' => e = .returned (.tuple #[.int .i64 v, .int .i64 g]) ∧ w = w')
    (g0 : g = 1) (h0 : h = 1) :
    Calls Tryd.prog 4 #[.int .i64 n, .int .i64 c, .int .i64 k] w fun e w' => e = .returned (.bool true) ∧ Below w.heap.size w w' := by
  subst g0 h0
  go_enter Tryd.func4, Tryd.ntmps4
  go_wp2_with (first
    | (go_at_call 7; with_reducible refine cS.mono ?_; rintro e w' ⟨rfl, rfl⟩)
    | (go_at_call 8; with_reducible refine cO.mono ?_; rintro e w' ⟨rfl, rfl⟩)
    | (go_at_call 10; with_reducible refine cA.mono ?_; rintro e w' ⟨rfl, rfl⟩)
    | (go_at_call 10; with_reducible refine c3.mono ?_; rintro e w' ⟨rfl, rfl⟩)
    | (go_at_call 14; with_reducible refine cP.mono ?_; rintro e w' ⟨rfl, rfl⟩)
    | (go_at_call 12; with_reducible refine c1.mono ?_; rintro e w' ⟨rfl, rfl⟩)
    | (go_at_call 16; with_reducible refine c2.mono ?_; rintro e w' ⟨rfl, rfl⟩))
  all_goals first | (go_ret; exact ⟨rfl, Below.refl _ _⟩) | (exfalso; omega)
theorem holds_b_u (w : World) (n : Int) (cS : Calls Tryd.prog 7 #[] w fun e w' => e = .returned (.bool true) ∧ w = w')
    (cO : Calls Tryd.prog 8 #[.int .i64 n] w fun e w' => e = .returned (.tuple #[.int .i64 0, .bool false]) ∧ w = w')
    (cA : Calls Tryd.prog 10 #[.int .i64 0] w fun e w' => e = .returned (.tuple #[.int .i64 2, .int .i64 0]) ∧ w = w')
    (cP : Calls Tryd.prog 14 #[.int .i64 n] w fun e w' => e = .returned (.tuple #[.int .i64 0, .int .i64 1]) ∧ w = w')
    (n1 : n < 1)
    (c k m v A : Int) (g h : Int)
    (c1 : Calls Tryd.prog 12 #[.int .i64 c] w fun e w' => e = .returned (.tuple #[.int .i64 m, .int .i64 g]) ∧ w = w')
    (c2 : Calls Tryd.prog 16 #[.int .i64 c, .int .i64 k] w fun e w' => e = .returned (.tuple #[.int .i64 A, .int .i64 h]) ∧ w = w')
    (c3 : Calls Tryd.prog 10 #[.int .i64 c] w fun e w' => e = .returned (.tuple #[.int .i64 v, .int .i64 g]) ∧ w = w')
    (g0 : g = 0) (h0 : h = 1) (hk : k < 0) :
    Calls Tryd.prog 4 #[.int .i64 n, .int .i64 c, .int .i64 k] w fun e w' => e = .returned (.bool true) ∧ Below w.heap.size w w' := by
  subst g0 h0
  go_enter Tryd.func4, Tryd.ntmps4
  go_wp2_with (first
    | (go_at_call 7; with_reducible refine cS.mono ?_; rintro e w' ⟨rfl, rfl⟩)
    | (go_at_call 8; with_reducible refine cO.mono ?_; rintro e w' ⟨rfl, rfl⟩)
    | (go_at_call 10; with_reducible refine cA.mono ?_; rintro e w' ⟨rfl, rfl⟩)
    | (go_at_call 10; with_reducible refine c3.mono ?_; rintro e w' ⟨rfl, rfl⟩)
    | (go_at_call 14; with_reducible refine cP.mono ?_; rintro e w' ⟨rfl, rfl⟩)
    | (go_at_call 12; with_reducible refine c1.mono ?_; rintro e w' ⟨rfl, rfl⟩)
    | (go_at_call 16; with_reducible refine c2.mono ?_; rintro e w' ⟨rfl, rfl⟩))
  all_goals first | (go_ret; exact ⟨rfl, Below.refl _ _⟩) | (exfalso; omega)
theorem holds_b_v (w : World) (n : Int) (cS : Calls Tryd.prog 7 #[] w fun e w' => e = .returned (.bool true) ∧ w = w')
    (cO : Calls Tryd.prog 8 #[.int .i64 n] w fun e w' => e = .returned (.tuple #[.int .i64 0, .bool false]) ∧ w = w')
    (cA : Calls Tryd.prog 10 #[.int .i64 0] w fun e w' => e = .returned (.tuple #[.int .i64 2, .int .i64 0]) ∧ w = w')
    (cP : Calls Tryd.prog 14 #[.int .i64 n] w fun e w' => e = .returned (.tuple #[.int .i64 0, .int .i64 1]) ∧ w = w')
    (n1 : n < 1)
    (c k m v A : Int) (g h : Int)
    (c1 : Calls Tryd.prog 12 #[.int .i64 c] w fun e w' => e = .returned (.tuple #[.int .i64 m, .int .i64 g]) ∧ w = w')
    (c2 : Calls Tryd.prog 16 #[.int .i64 c, .int .i64 k] w fun e w' => e = .returned (.tuple #[.int .i64 A, .int .i64 h]) ∧ w = w')
    (c3 : Calls Tryd.prog 10 #[.int .i64 c] w fun e w' => e = .returned (.tuple #[.int .i64 v, .int .i64 g]) ∧ w = w')
    (g0 : g = 0) (h0 : h = 1) (hk : m ≤ k) :
    Calls Tryd.prog 4 #[.int .i64 n, .int .i64 c, .int .i64 k] w fun e w' => e = .returned (.bool true) ∧ Below w.heap.size w w' := by
  subst g0 h0
  go_enter Tryd.func4, Tryd.ntmps4
  go_wp2_with (first
    | (go_at_call 7; with_reducible refine cS.mono ?_; rintro e w' ⟨rfl, rfl⟩)
    | (go_at_call 8; with_reducible refine cO.mono ?_; rintro e w' ⟨rfl, rfl⟩)
    | (go_at_call 10; with_reducible refine cA.mono ?_; rintro e w' ⟨rfl, rfl⟩)
    | (go_at_call 10; with_reducible refine c3.mono ?_; rintro e w' ⟨rfl, rfl⟩)
    | (go_at_call 14; with_reducible refine cP.mono ?_; rintro e w' ⟨rfl, rfl⟩)
    | (go_at_call 12; with_reducible refine c1.mono ?_; rintro e w' ⟨rfl, rfl⟩)
    | (go_at_call 16; with_reducible refine c2.mono ?_; rintro e w' ⟨rfl, rfl⟩))
  all_goals first | (go_ret; exact ⟨rfl, Below.refl _ _⟩) | (exfalso; omega)
theorem holds_b (w : World) (n : Int) (cS : Calls Tryd.prog 7 #[] w fun e w' => e = .returned (.bool true) ∧ w = w')
    (cO : Calls Tryd.prog 8 #[.int .i64 n] w fun e w' => e = .returned (.tuple #[.int .i64 0, .bool false]) ∧ w = w')
    (cA : Calls Tryd.prog 10 #[.int .i64 0] w fun e w' => e = .returned (.tuple #[.int .i64 2, .int .i64 0]) ∧ w = w')
    (cP : Calls Tryd.prog 14 #[.int .i64 n] w fun e w' => e = .returned (.tuple #[.int .i64 0, .int .i64 1]) ∧ w = w')
    (n1 : n < 1)
    (c k m v A : Int) (g h : Int)
    (c1 : Calls Tryd.prog 12 #[.int .i64 c] w fun e w' => e = .returned (.tuple #[.int .i64 m, .int .i64 g]) ∧ w = w')
    (c2 : Calls Tryd.prog 16 #[.int .i64 c, .int .i64 k] w fun e w' => e = .returned (.tuple #[.int .i64 A, .int .i64 h]) ∧ w = w')
    (c3 : Calls Tryd.prog 10 #[.int .i64 c] w fun e w' => e = .returned (.tuple #[.int .i64 v, .int .i64 g]) ∧ w = w')
    (ok : (g = 0 ∧ h = 0 ∧ ∃ q r s : Int, v * k = q ∧ A = 4 + q ∧ 4 + q + v ≤ 32 ∧ v * m = r ∧ 4 + r ≤ 32 ∧ v * (m + 1) = s ∧ 32 < 4 + s ∧ s ≤ 300 ∧ 0 ≤ q ∧ 0 ≤ r ∧ 0 ≤ v ∧ v ≤ 15 ∧ 0 ≤ m ∧ m ≤ 14) ∨ (h = 1 ∧ (g = 1 ∨ (g = 0 ∧ (k < 0 ∨ m ≤ k))))) :
    Calls Tryd.prog 4 #[.int .i64 n, .int .i64 c, .int .i64 k] w fun e w' => e = .returned (.bool true) ∧ Below w.heap.size w w' := by
  rcases ok with ⟨g0, h0, q, r, s, e1, eA, e2, e3, e4, e5, e6, e7, e8, e9, v0, v1, m0, m1⟩ | ⟨h0, g0 | ⟨g0, hk | hk⟩⟩
  · exact holds_b_o w n cS cO cA cP n1 c k m v A g h c1 c2 c3 g0 h0 q r s e1 eA e2 e3 e4 e5 e6 e7 e8 e9 v0 v1 m0 m1
  · exact holds_b_n w n cS cO cA cP n1 c k m v A g h c1 c2 c3 g0 h0
  · exact holds_b_u w n cS cO cA cP n1 c k m v A g h c1 c2 c3 g0 h0 hk
  · exact holds_b_v w n cS cO cA cP n1 c k m v A g h c1 c2 c3 g0 h0 hk

theorem holds_g_o (w : World) (n : Int) (cS : Calls Tryd.prog 7 #[] w fun e w' => e = .returned (.bool true) ∧ w = w')
    (cO : Calls Tryd.prog 8 #[.int .i64 n] w fun e w' => e = .returned (.tuple #[.int .i64 0, .bool false]) ∧ w = w')
    (cA : Calls Tryd.prog 10 #[.int .i64 0] w fun e w' => e = .returned (.tuple #[.int .i64 2, .int .i64 0]) ∧ w = w')
    (cP : Calls Tryd.prog 14 #[.int .i64 n] w fun e w' => e = .returned (.tuple #[.int .i64 0, .int .i64 1]) ∧ w = w')
    (n1 : 2048 < n)
    (c k m v A : Int) (g h : Int)
    (c1 : Calls Tryd.prog 12 #[.int .i64 c] w fun e w' => e = .returned (.tuple #[.int .i64 m, .int .i64 g]) ∧ w = w')
    (c2 : Calls Tryd.prog 16 #[.int .i64 c, .int .i64 k] w fun e w' => e = .returned (.tuple #[.int .i64 A, .int .i64 h]) ∧ w = w')
    (c3 : Calls Tryd.prog 10 #[.int .i64 c] w fun e w' => e = .returned (.tuple #[.int .i64 v, .int .i64 g]) ∧ w = w')
    (g0 : g = 0) (h0 : h = 0) (q r s : Int) (e1 : v * k = q) (eA : A = 4 + q) (e2 : 4 + q + v ≤ 32) (e3 : v * m = r) (e4 : 4 + r ≤ 32) (e5 : v * (m + 1) = s) (e6 : 32 < 4 + s) (e7 : s ≤ 300) (e8 : 0 ≤ q) (e9 : 0 ≤ r) (v0 : 0 ≤ v) (v1 : v ≤ 15) (m0 : 0 ≤ m) (m1 : m ≤ 14) :
    Calls Tryd.prog 4 #[.int .i64 n, .int .i64 c, .int .i64 k] w fun e w' => e = .returned (.bool true) ∧ Below w.heap.size w w' := by
  subst g0 h0
  subst eA
  have y1 : IntKind.i64.wrap (v * k) = q := by rw [e1]; exact IntWalk.i64_in _ ⟨by omega, by omega⟩
  have y2 : IntKind.i64.wrap (4 + q) = 4 + q := IntWalk.i64_in _ ⟨by omega, by omega⟩
  have y3 : IntKind.i64.wrap (4 + q + v) = 4 + q + v := IntWalk.i64_in _ ⟨by omega, by omega⟩
  have y4 : IntKind.i64.wrap (v * m) = r := by rw [e3]; exact IntWalk.i64_in _ ⟨by omega, by omega⟩
  have y5 : IntKind.i64.wrap (4 + r) = 4 + r := IntWalk.i64_in _ ⟨by omega, by omega⟩
  have y6 : IntKind.i64.wrap (m + 1) = m + 1 := IntWalk.i64_in _ ⟨by omega, by omega⟩
  have y7 : IntKind.i64.wrap (v * (m + 1)) = s := by rw [e5]; exact IntWalk.i64_in _ ⟨by omega, by omega⟩
  have y8 : IntKind.i64.wrap (4 + s) = 4 + s := IntWalk.i64_in _ ⟨by omega, by omega⟩
  clear e1 e3 e5
  go_enter Tryd.func4, Tryd.ntmps4
  go_wp2_with (first
    | (go_at_call 7; with_reducible refine cS.mono ?_; rintro e w' ⟨rfl, rfl⟩)
    | (go_at_call 8; with_reducible refine cO.mono ?_; rintro e w' ⟨rfl, rfl⟩)
    | (go_at_call 10; with_reducible refine cA.mono ?_; rintro e w' ⟨rfl, rfl⟩)
    | (go_at_call 10; with_reducible refine c3.mono ?_; rintro e w' ⟨rfl, rfl⟩)
    | (go_at_call 14; with_reducible refine cP.mono ?_; rintro e w' ⟨rfl, rfl⟩)
    | (go_at_call 12; with_reducible refine c1.mono ?_; rintro e w' ⟨rfl, rfl⟩)
    | (go_at_call 16; with_reducible refine c2.mono ?_; rintro e w' ⟨rfl, rfl⟩))
  all_goals first | (go_ret; exact ⟨rfl, Below.refl _ _⟩) | (exfalso; omega)
theorem holds_g_n (w : World) (n : Int) (cS : Calls Tryd.prog 7 #[] w fun e w' => e = .returned (.bool true) ∧ w = w')
    (cO : Calls Tryd.prog 8 #[.int .i64 n] w fun e w' => e = .returned (.tuple #[.int .i64 0, .bool false]) ∧ w = w')
    (cA : Calls Tryd.prog 10 #[.int .i64 0] w fun e w' => e = .returned (.tuple #[.int .i64 2, .int .i64 0]) ∧ w = w')
    (cP : Calls Tryd.prog 14 #[.int .i64 n] w fun e w' => e = .returned (.tuple #[.int .i64 0, .int .i64 1]) ∧ w = w')
    (n1 : 2048 < n)
    (c k m v A : Int) (g h : Int)
    (c1 : Calls Tryd.prog 12 #[.int .i64 c] w fun e w' => e = .returned (.tuple #[.int .i64 m, .int .i64 g]) ∧ w = w')
    (c2 : Calls Tryd.prog 16 #[.int .i64 c, .int .i64 k] w fun e w' => e = .returned (.tuple #[.int .i64 A, .int .i64 h]) ∧ w = w')
    (c3 : Calls Tryd.prog 10 #[.int .i64 c] w fun e w' => e = .returned (.tuple #[.int .i64 v, .int .i64 g]) ∧ w = w')
    (g0 : g = 1) (h0 : h = 1) :
    Calls Tryd.prog 4 #[.int .i64 n, .int .i64 c, .int .i64 k] w fun e w' => e = .returned (.bool true) ∧ Below w.heap.size w w' := by
  subst g0 h0
  go_enter Tryd.func4, Tryd.ntmps4
  go_wp2_with (first
    | (go_at_call 7; with_reducible refine cS.mono ?_; rintro e w' ⟨rfl, rfl⟩)
    | (go_at_call 8; with_reducible refine cO.mono ?_; rintro e w' ⟨rfl, rfl⟩)
    | (go_at_call 10; with_reducible refine cA.mono ?_; rintro e w' ⟨rfl, rfl⟩)
    | (go_at_call 10; with_reducible refine c3.mono ?_; rintro e w' ⟨rfl, rfl⟩)
    | (go_at_call 14; with_reducible refine cP.mono ?_; rintro e w' ⟨rfl, rfl⟩)
    | (go_at_call 12; with_reducible refine c1.mono ?_; rintro e w' ⟨rfl, rfl⟩)
    | (go_at_call 16; with_reducible refine c2.mono ?_; rintro e w' ⟨rfl, rfl⟩))
  all_goals first | (go_ret; exact ⟨rfl, Below.refl _ _⟩) | (exfalso; omega)
theorem holds_g_u (w : World) (n : Int) (cS : Calls Tryd.prog 7 #[] w fun e w' => e = .returned (.bool true) ∧ w = w')
    (cO : Calls Tryd.prog 8 #[.int .i64 n] w fun e w' => e = .returned (.tuple #[.int .i64 0, .bool false]) ∧ w = w')
    (cA : Calls Tryd.prog 10 #[.int .i64 0] w fun e w' => e = .returned (.tuple #[.int .i64 2, .int .i64 0]) ∧ w = w')
    (cP : Calls Tryd.prog 14 #[.int .i64 n] w fun e w' => e = .returned (.tuple #[.int .i64 0, .int .i64 1]) ∧ w = w')
    (n1 : 2048 < n)
    (c k m v A : Int) (g h : Int)
    (c1 : Calls Tryd.prog 12 #[.int .i64 c] w fun e w' => e = .returned (.tuple #[.int .i64 m, .int .i64 g]) ∧ w = w')
    (c2 : Calls Tryd.prog 16 #[.int .i64 c, .int .i64 k] w fun e w' => e = .returned (.tuple #[.int .i64 A, .int .i64 h]) ∧ w = w')
    (c3 : Calls Tryd.prog 10 #[.int .i64 c] w fun e w' => e = .returned (.tuple #[.int .i64 v, .int .i64 g]) ∧ w = w')
    (g0 : g = 0) (h0 : h = 1) (hk : k < 0) :
    Calls Tryd.prog 4 #[.int .i64 n, .int .i64 c, .int .i64 k] w fun e w' => e = .returned (.bool true) ∧ Below w.heap.size w w' := by
  subst g0 h0
  go_enter Tryd.func4, Tryd.ntmps4
  go_wp2_with (first
    | (go_at_call 7; with_reducible refine cS.mono ?_; rintro e w' ⟨rfl, rfl⟩)
    | (go_at_call 8; with_reducible refine cO.mono ?_; rintro e w' ⟨rfl, rfl⟩)
    | (go_at_call 10; with_reducible refine cA.mono ?_; rintro e w' ⟨rfl, rfl⟩)
    | (go_at_call 10; with_reducible refine c3.mono ?_; rintro e w' ⟨rfl, rfl⟩)
    | (go_at_call 14; with_reducible refine cP.mono ?_; rintro e w' ⟨rfl, rfl⟩)
    | (go_at_call 12; with_reducible refine c1.mono ?_; rintro e w' ⟨rfl, rfl⟩)
    | (go_at_call 16; with_reducible refine c2.mono ?_; rintro e w' ⟨rfl, rfl⟩))
  all_goals first | (go_ret; exact ⟨rfl, Below.refl _ _⟩) | (exfalso; omega)
theorem holds_g_v (w : World) (n : Int) (cS : Calls Tryd.prog 7 #[] w fun e w' => e = .returned (.bool true) ∧ w = w')
    (cO : Calls Tryd.prog 8 #[.int .i64 n] w fun e w' => e = .returned (.tuple #[.int .i64 0, .bool false]) ∧ w = w')
    (cA : Calls Tryd.prog 10 #[.int .i64 0] w fun e w' => e = .returned (.tuple #[.int .i64 2, .int .i64 0]) ∧ w = w')
    (cP : Calls Tryd.prog 14 #[.int .i64 n] w fun e w' => e = .returned (.tuple #[.int .i64 0, .int .i64 1]) ∧ w = w')
    (n1 : 2048 < n)
    (c k m v A : Int) (g h : Int)
    (c1 : Calls Tryd.prog 12 #[.int .i64 c] w fun e w' => e = .returned (.tuple #[.int .i64 m, .int .i64 g]) ∧ w = w')
    (c2 : Calls Tryd.prog 16 #[.int .i64 c, .int .i64 k] w fun e w' => e = .returned (.tuple #[.int .i64 A, .int .i64 h]) ∧ w = w')
    (c3 : Calls Tryd.prog 10 #[.int .i64 c] w fun e w' => e = .returned (.tuple #[.int .i64 v, .int .i64 g]) ∧ w = w')
    (g0 : g = 0) (h0 : h = 1) (hk : m ≤ k) :
    Calls Tryd.prog 4 #[.int .i64 n, .int .i64 c, .int .i64 k] w fun e w' => e = .returned (.bool true) ∧ Below w.heap.size w w' := by
  subst g0 h0
  go_enter Tryd.func4, Tryd.ntmps4
  go_wp2_with (first
    | (go_at_call 7; with_reducible refine cS.mono ?_; rintro e w' ⟨rfl, rfl⟩)
    | (go_at_call 8; with_reducible refine cO.mono ?_; rintro e w' ⟨rfl, rfl⟩)
    | (go_at_call 10; with_reducible refine cA.mono ?_; rintro e w' ⟨rfl, rfl⟩)
    | (go_at_call 10; with_reducible refine c3.mono ?_; rintro e w' ⟨rfl, rfl⟩)
    | (go_at_call 14; with_reducible refine cP.mono ?_; rintro e w' ⟨rfl, rfl⟩)
    | (go_at_call 12; with_reducible refine c1.mono ?_; rintro e w' ⟨rfl, rfl⟩)
    | (go_at_call 16; with_reducible refine c2.mono ?_; rintro e w' ⟨rfl, rfl⟩))
  all_goals first | (go_ret; exact ⟨rfl, Below.refl _ _⟩) | (exfalso; omega)
theorem holds_g (w : World) (n : Int) (cS : Calls Tryd.prog 7 #[] w fun e w' => e = .returned (.bool true) ∧ w = w')
    (cO : Calls Tryd.prog 8 #[.int .i64 n] w fun e w' => e = .returned (.tuple #[.int .i64 0, .bool false]) ∧ w = w')
    (cA : Calls Tryd.prog 10 #[.int .i64 0] w fun e w' => e = .returned (.tuple #[.int .i64 2, .int .i64 0]) ∧ w = w')
    (cP : Calls Tryd.prog 14 #[.int .i64 n] w fun e w' => e = .returned (.tuple #[.int .i64 0, .int .i64 1]) ∧ w = w')
    (n1 : 2048 < n)
    (c k m v A : Int) (g h : Int)
    (c1 : Calls Tryd.prog 12 #[.int .i64 c] w fun e w' => e = .returned (.tuple #[.int .i64 m, .int .i64 g]) ∧ w = w')
    (c2 : Calls Tryd.prog 16 #[.int .i64 c, .int .i64 k] w fun e w' => e = .returned (.tuple #[.int .i64 A, .int .i64 h]) ∧ w = w')
    (c3 : Calls Tryd.prog 10 #[.int .i64 c] w fun e w' => e = .returned (.tuple #[.int .i64 v, .int .i64 g]) ∧ w = w')
    (ok : (g = 0 ∧ h = 0 ∧ ∃ q r s : Int, v * k = q ∧ A = 4 + q ∧ 4 + q + v ≤ 32 ∧ v * m = r ∧ 4 + r ≤ 32 ∧ v * (m + 1) = s ∧ 32 < 4 + s ∧ s ≤ 300 ∧ 0 ≤ q ∧ 0 ≤ r ∧ 0 ≤ v ∧ v ≤ 15 ∧ 0 ≤ m ∧ m ≤ 14) ∨ (h = 1 ∧ (g = 1 ∨ (g = 0 ∧ (k < 0 ∨ m ≤ k))))) :
    Calls Tryd.prog 4 #[.int .i64 n, .int .i64 c, .int .i64 k] w fun e w' => e = .returned (.bool true) ∧ Below w.heap.size w w' := by
  rcases ok with ⟨g0, h0, q, r, s, e1, eA, e2, e3, e4, e5, e6, e7, e8, e9, v0, v1, m0, m1⟩ | ⟨h0, g0 | ⟨g0, hk | hk⟩⟩
  · exact holds_g_o w n cS cO cA cP n1 c k m v A g h c1 c2 c3 g0 h0 q r s e1 eA e2 e3 e4 e5 e6 e7 e8 e9 v0 v1 m0 m1
  · exact holds_g_n w n cS cO cA cP n1 c k m v A g h c1 c2 c3 g0 h0
  · exact holds_g_u w n cS cO cA cP n1 c k m v A g h c1 c2 c3 g0 h0 hk
  · exact holds_g_v w n cS cO cA cP n1 c k m v A g h c1 c2 c3 g0 h0 hk


theorem classHolds_walk (w : World) (T : Cws w) (n : Int) (hw0 : (Lit.int .i64 n).wf = true) (c : Int) (hw1 : (Lit.int .i64 c).wf = true) (k : Int) (hw2 : (Lit.int .i64 k).wf = true) :
    Calls Tryd.prog 4 #[.int .i64 n, .int .i64 c, .int .i64 k] w fun e w' => e = .returned (.bool true) ∧ Below w.heap.size w w' := by
  have cS := smallC_any w T
  have cO := of_any n w T
  have cA := words_any (clN n) w T
  have cP := pages_any n w T
  have c1 := cells_any c w T
  have c2 := cell_any c k w T
  have c3 := words_any c w T
  have ok : (wdE c = 0 ∧ ctE c k = 0 ∧ ∃ q r s : Int, wdN c * k = q ∧ ctN c k = 4 + q ∧ 4 + q + wdN c ≤ 32 ∧ wdN c * ceN c = r ∧ 4 + r ≤ 32 ∧ wdN c * (ceN c + 1) = s ∧ 32 < 4 + s ∧ s ≤ 300 ∧ 0 ≤ q ∧ 0 ≤ r ∧ 0 ≤ wdN c ∧ wdN c ≤ 15 ∧ 0 ≤ ceN c ∧ ceN c ≤ 14) ∨ (ctE c k = 1 ∧ (wdE c = 1 ∨ (wdE c = 0 ∧ (k < 0 ∨ ceN c ≤ k)))) := by
    by_cases hk : CtOk c k
    · have hc := hk.cls
      obtain ⟨v1, v2, m1, m2, f1, f2⟩ := cls_in hc
      refine Or.inl ⟨wdE_in hc, (ct_t hk).2, _, _, _, rfl, by rw [(ct_t hk).1, Int.mul_comm], ?_, rfl, f1, rfl, f2, ?_, ?_, ?_, by omega, v2, by omega, m2⟩
      · have := Int.mul_le_mul_of_nonneg_left (show k + 1 ≤ ceN c from hk.2) (show 0 ≤ wdN c by omega)
        rw [Int.mul_add, Int.mul_one] at this
        omega
      · have := Int.mul_le_mul v2 (show ceN c + 1 ≤ 15 by omega) (by omega) (by omega)
        omega
      · exact Int.mul_nonneg (by omega) hk.1
      · exact Int.mul_nonneg (by omega) (by omega)
    · refine Or.inr ⟨(ct_f hk).2, ?_⟩
      by_cases hc : 0 ≤ c ∧ c < 6
      · refine Or.inr ⟨wdE_in hc, ?_⟩
        unfold CtOk at hk
        omega
      · exact Or.inl (wdE_out hc)
  by_cases hs : 1 ≤ n ∧ n ≤ 120
  · have cB := words_any ((clN n : Int) - 1) w T
    obtain ⟨h1, h2, h3⟩ := cl_holds hs
    have ha := clN_lt n
    obtain ⟨v1, v2, _⟩ := cls_in (c := (clN n : Int)) ⟨by omega, by omega⟩
    rw [cl_b hs] at cO
    rw [wdE_in ⟨by omega, by omega⟩] at cA
    have hL : 0 ≤ wdN ((clN n : Int) - 1) ∧ wdN ((clN n : Int) - 1) ≤ 15 := by
      by_cases hc : 0 ≤ (clN n : Int) - 1 ∧ (clN n : Int) - 1 < 6
      · obtain ⟨x1, x2, _⟩ := cls_in hc
        omega
      · rw [wdN_out hc]; omega
    rcases h3 with h3 | h3 <;> rw [h3] at cB
    · exact holds_s0 w n _ _ _ cS cO cA cB hs.1 hs.2 (by omega) (by omega) v1 v2 h1 hL.1 hL.2 h2 c k _ _ _ _ _ c1 c2 c3 ok
    · exact holds_s1 w n _ _ _ cS cO cA cB hs.1 hs.2 (by omega) (by omega) v1 v2 h1 hL.1 hL.2 h2 c k _ _ _ _ _ c1 c2 c3 ok
  · rw [(cl_f hs).1] at cA cO
    rw [(cl_f hs).2] at cO
    by_cases hl : 120 < n ∧ n ≤ 2048
    · rw [(pg_t hl).1, (pg_t hl).2] at cP
      exact holds_l w n _ cS cO cA cP hl.1 hl.2 (by omega) (by omega) (by omega) (by omega) c k _ _ _ _ _ c1 c2 c3 ok
    · rw [(pg_f hl).1, (pg_f hl).2] at cP
      by_cases hb : n < 1
      · exact holds_b w n cS cO cA cP hb c k _ _ _ _ _ c1 c2 c3 ok
      · exact holds_g w n cS cO cA cP (by omega) c k _ _ _ _ _ c1 c2 c3 ok
end Go.Proofs.YtdpdgmdfffedpaaDoor
