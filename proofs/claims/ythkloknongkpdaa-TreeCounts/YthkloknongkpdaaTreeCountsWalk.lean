/- 'TreeCounts' walked: so many nodes, and never more. -/
import Derived.Test.YthkloknongkpdaaMtI
import Derived.BigQuiet
namespace Go.Proofs.Ythkloknongkpdaa
set_option maxRecDepth 100000
open Go.RowKit
set_option linter.unusedVariables false
set_option linter.unusedSimpArgs false
set_option maxRecDepth 100000

theorem counts_far (w : World) (P : Int) (ao : Option Addr) (n cap : Nat) (l : List Blk) (z : Int) (hn : n ≤ 9223372036854775807) (c0 : ∀ w, Calls Try.prog 9 #[] w fun e w' => e = .returned (.bool true) ∧ Below w.heap.size w w') (h3 : 300 < (n : Int)) :
    Calls Try.prog 8 #[.int .i64 P, .slice ao n cap, .int .i64 z] w fun e w' => e = .returned (.bool true) ∧ Below w.heap.size w w' := by
  go_enter Try.func8, Try.ntmps8
  go_wp2_with (first
    | (go_at_call 9; with_reducible refine (c0 _).mono ?_; rintro e w1 ⟨rfl, hbc⟩))
  go_ret
  exact ⟨rfl, hbc⟩
set_option maxHeartbeats 2000000 in
theorem counts_r0 (w : World) (P : Int) (ao : Option Addr) (n cap : Nat) (l : List Blk) (z : Int) (hn : n ≤ 9223372036854775807) (c0 : ∀ w, Calls Try.prog 9 #[] w fun e w' => e = .returned (.bool true) ∧ Below w.heap.size w w') (h3 : n ≤ 300) (k k1 q q1 : Int) (R : Bool) (E F : Int) (cR : ∀ w', Below w.heap.size w w' → Calls Try.prog 14 #[.int .i64 P, .slice ao n cap] w' fun e w'' => e = .returned (.bool R) ∧ Below w'.heap.size w' w'') (cW : ∀ w', Below w.heap.size w w' → Calls Try.prog 18 #[.int .i64 P, .int .i64 k, .slice ao n cap] w' fun e w'' => ∃ bo m c, e = .returned (.tuple #[.slice bo m c, .int .i64 E]) ∧ Below w'.heap.size w' w'') (cV : ∀ w', Below w.heap.size w w' → Calls Try.prog 18 #[.int .i64 P, .int .i64 k1, .slice ao n cap] w' fun e w'' => ∃ bo m c, e = .returned (.tuple #[.slice bo m c, .int .i64 F]) ∧ Below w'.heap.size w' w'') (cK : ∀ w', Calls Try.prog 16 #[.int .i64 (n : Int)] w' fun e w'' => e = .returned (.int .i64 k) ∧ Below w'.heap.size w' w'') (cM : ∀ w', Calls Try.prog 16 #[.int .i64 64] w' fun e w'' => e = .returned (.int .i64 13) ∧ Below w'.heap.size w' w'') (hk : IntKind.i64.wrap (k - 1) = k1) (hR : R = true) (hE : E = 0) (hF : F = 2) (hk13 : k ≤ 13) (hz : z < 0) :
    Calls Try.prog 8 #[.int .i64 P, .slice ao n cap, .int .i64 z] w fun e w' => e = .returned (.bool true) ∧ Below w.heap.size w w' := by
  have h3' : ¬ (300 < (n : Int)) := by omega
  subst hR hE hF
  have hk13' : ¬ (13 < k) := by omega
  go_enter Try.func8, Try.ntmps8
  go_wp2_with (first
    | (go_at_call 9; with_reducible refine (c0 _).mono ?_; rintro e w1 ⟨rfl, hbc⟩)
    | (go_at_call 14; with_reducible refine (cR _ hbc).mono ?_; rintro e w1 ⟨rfl, hb1⟩; have hbc := next hbc hb1; clear hb1)
    | (go_at_call 18; with_reducible refine (cW _ hbc).mono ?_; rintro e w1 ⟨bo, m, c, rfl, hb1⟩; have hbc := next hbc hb1; clear hb1)
    | (go_at_call 18; with_reducible refine (cV _ hbc).mono ?_; rintro e w1 ⟨bo, m, c, rfl, hb1⟩; have hbc := next hbc hb1; clear hb1)
    | (go_at_call 16; with_reducible refine (cK _).mono ?_; rintro e w1 ⟨rfl, hb1⟩; have hbc := next hbc hb1; clear hb1)
    | (go_at_call 16; with_reducible refine (cM _).mono ?_; rintro e w1 ⟨rfl, hb1⟩; have hbc := next hbc hb1; clear hb1))
  go_ret
  exact ⟨rfl, hbc⟩
set_option maxHeartbeats 2000000 in
theorem counts_r1 (w : World) (P : Int) (ao : Option Addr) (n cap : Nat) (l : List Blk) (z : Int) (hn : n ≤ 9223372036854775807) (c0 : ∀ w, Calls Try.prog 9 #[] w fun e w' => e = .returned (.bool true) ∧ Below w.heap.size w w') (h3 : n ≤ 300) (k k1 q q1 : Int) (R : Bool) (E F : Int) (cR : ∀ w', Below w.heap.size w w' → Calls Try.prog 14 #[.int .i64 P, .slice ao n cap] w' fun e w'' => e = .returned (.bool R) ∧ Below w'.heap.size w' w'') (cW : ∀ w', Below w.heap.size w w' → Calls Try.prog 18 #[.int .i64 P, .int .i64 k, .slice ao n cap] w' fun e w'' => ∃ bo m c, e = .returned (.tuple #[.slice bo m c, .int .i64 E]) ∧ Below w'.heap.size w' w'') (cV : ∀ w', Below w.heap.size w w' → Calls Try.prog 18 #[.int .i64 P, .int .i64 k1, .slice ao n cap] w' fun e w'' => ∃ bo m c, e = .returned (.tuple #[.slice bo m c, .int .i64 F]) ∧ Below w'.heap.size w' w'') (cK : ∀ w', Calls Try.prog 16 #[.int .i64 (n : Int)] w' fun e w'' => e = .returned (.int .i64 k) ∧ Below w'.heap.size w' w'') (cM : ∀ w', Calls Try.prog 16 #[.int .i64 64] w' fun e w'' => e = .returned (.int .i64 13) ∧ Below w'.heap.size w' w'') (hk : IntKind.i64.wrap (k - 1) = k1) (hR : R = true) (hE : E = 0) (hF : F = 2) (hk13 : k ≤ 13) (hz : ¬ z < 0) (hz2 : 1099511627776 < z) :
    Calls Try.prog 8 #[.int .i64 P, .slice ao n cap, .int .i64 z] w fun e w' => e = .returned (.bool true) ∧ Below w.heap.size w w' := by
  have h3' : ¬ (300 < (n : Int)) := by omega
  subst hR hE hF
  have hk13' : ¬ (13 < k) := by omega
  go_enter Try.func8, Try.ntmps8
  go_wp2_with (first
    | (go_at_call 9; with_reducible refine (c0 _).mono ?_; rintro e w1 ⟨rfl, hbc⟩)
    | (go_at_call 14; with_reducible refine (cR _ hbc).mono ?_; rintro e w1 ⟨rfl, hb1⟩; have hbc := next hbc hb1; clear hb1)
    | (go_at_call 18; with_reducible refine (cW _ hbc).mono ?_; rintro e w1 ⟨bo, m, c, rfl, hb1⟩; have hbc := next hbc hb1; clear hb1)
    | (go_at_call 18; with_reducible refine (cV _ hbc).mono ?_; rintro e w1 ⟨bo, m, c, rfl, hb1⟩; have hbc := next hbc hb1; clear hb1)
    | (go_at_call 16; with_reducible refine (cK _).mono ?_; rintro e w1 ⟨rfl, hb1⟩; have hbc := next hbc hb1; clear hb1)
    | (go_at_call 16; with_reducible refine (cM _).mono ?_; rintro e w1 ⟨rfl, hb1⟩; have hbc := next hbc hb1; clear hb1))
  go_ret
  exact ⟨rfl, hbc⟩
set_option maxHeartbeats 2000000 in
theorem counts_r2 (w : World) (P : Int) (ao : Option Addr) (n cap : Nat) (l : List Blk) (z : Int) (hn : n ≤ 9223372036854775807) (c0 : ∀ w, Calls Try.prog 9 #[] w fun e w' => e = .returned (.bool true) ∧ Below w.heap.size w w') (h3 : n ≤ 300) (k k1 q q1 : Int) (R : Bool) (E F : Int) (cR : ∀ w', Below w.heap.size w w' → Calls Try.prog 14 #[.int .i64 P, .slice ao n cap] w' fun e w'' => e = .returned (.bool R) ∧ Below w'.heap.size w' w'') (cW : ∀ w', Below w.heap.size w w' → Calls Try.prog 18 #[.int .i64 P, .int .i64 k, .slice ao n cap] w' fun e w'' => ∃ bo m c, e = .returned (.tuple #[.slice bo m c, .int .i64 E]) ∧ Below w'.heap.size w' w'') (cV : ∀ w', Below w.heap.size w w' → Calls Try.prog 18 #[.int .i64 P, .int .i64 k1, .slice ao n cap] w' fun e w'' => ∃ bo m c, e = .returned (.tuple #[.slice bo m c, .int .i64 F]) ∧ Below w'.heap.size w' w'') (cK : ∀ w', Calls Try.prog 16 #[.int .i64 (n : Int)] w' fun e w'' => e = .returned (.int .i64 k) ∧ Below w'.heap.size w' w'') (cM : ∀ w', Calls Try.prog 16 #[.int .i64 64] w' fun e w'' => e = .returned (.int .i64 13) ∧ Below w'.heap.size w' w'') (hk : IntKind.i64.wrap (k - 1) = k1) (hR : R = true) (hE : E = 0) (hF : F = 2) (hk13 : k ≤ 13) (hz : ¬ z < 0) (hz2 : ¬ 1099511627776 < z) (cQ : ∀ w', Calls Try.prog 16 #[.int .i64 z] w' fun e w'' => e = .returned (.int .i64 q) ∧ Below w'.heap.size w' w'') (cP : ∀ w', Calls Try.prog 16 #[.int .i64 (z + 1)] w' fun e w'' => e = .returned (.int .i64 q1) ∧ Below w'.heap.size w' w'') (hq : 1 ≤ q) (hq1 : q ≤ q1) (hq2 : q1 ≤ q + 20) (hx : IntKind.i64.wrap (z + 1) = z + 1) (hy : IntKind.i64.wrap (q + 20) = q + 20) :
    Calls Try.prog 8 #[.int .i64 P, .slice ao n cap, .int .i64 z] w fun e w' => e = .returned (.bool true) ∧ Below w.heap.size w w' := by
  have h3' : ¬ (300 < (n : Int)) := by omega
  subst hR hE hF
  have hk13' : ¬ (13 < k) := by omega
  go_enter Try.func8, Try.ntmps8
  go_wp2_with (first
    | (go_at_call 9; with_reducible refine (c0 _).mono ?_; rintro e w1 ⟨rfl, hbc⟩)
    | (go_at_call 14; with_reducible refine (cR _ hbc).mono ?_; rintro e w1 ⟨rfl, hb1⟩; have hbc := next hbc hb1; clear hb1)
    | (go_at_call 18; with_reducible refine (cW _ hbc).mono ?_; rintro e w1 ⟨bo, m, c, rfl, hb1⟩; have hbc := next hbc hb1; clear hb1)
    | (go_at_call 18; with_reducible refine (cV _ hbc).mono ?_; rintro e w1 ⟨bo, m, c, rfl, hb1⟩; have hbc := next hbc hb1; clear hb1)
    | (go_at_call 16; with_reducible refine (cK _).mono ?_; rintro e w1 ⟨rfl, hb1⟩; have hbc := next hbc hb1; clear hb1)
    | (go_at_call 16; with_reducible refine (cM _).mono ?_; rintro e w1 ⟨rfl, hb1⟩; have hbc := next hbc hb1; clear hb1)
    | (go_at_call 16; with_reducible refine (cQ _).mono ?_; rintro e w1 ⟨rfl, hb1⟩; have hbc := next hbc hb1; clear hb1)
    | (go_at_call 16; with_reducible refine (cP _).mono ?_; rintro e w1 ⟨rfl, hb1⟩; have hbc := next hbc hb1; clear hb1))
  go_ret
  exact ⟨rfl, hbc⟩
set_option maxHeartbeats 2000000 in
theorem counts_n0 (w : World) (P : Int) (ao : Option Addr) (n cap : Nat) (l : List Blk) (z : Int) (hn : n ≤ 9223372036854775807) (c0 : ∀ w, Calls Try.prog 9 #[] w fun e w' => e = .returned (.bool true) ∧ Below w.heap.size w w') (h3 : n ≤ 300) (k k1 q q1 : Int) (R : Bool) (E F : Int) (cR : ∀ w', Below w.heap.size w w' → Calls Try.prog 14 #[.int .i64 P, .slice ao n cap] w' fun e w'' => e = .returned (.bool R) ∧ Below w'.heap.size w' w'') (cW : ∀ w', Below w.heap.size w w' → Calls Try.prog 18 #[.int .i64 P, .int .i64 k, .slice ao n cap] w' fun e w'' => ∃ bo m c, e = .returned (.tuple #[.slice bo m c, .int .i64 E]) ∧ Below w'.heap.size w' w'') (cV : ∀ w', Below w.heap.size w w' → Calls Try.prog 18 #[.int .i64 P, .int .i64 k1, .slice ao n cap] w' fun e w'' => ∃ bo m c, e = .returned (.tuple #[.slice bo m c, .int .i64 F]) ∧ Below w'.heap.size w' w'') (cK : ∀ w', Calls Try.prog 16 #[.int .i64 (n : Int)] w' fun e w'' => e = .returned (.int .i64 k) ∧ Below w'.heap.size w' w'') (cM : ∀ w', Calls Try.prog 16 #[.int .i64 64] w' fun e w'' => e = .returned (.int .i64 13) ∧ Below w'.heap.size w' w'') (hk : IntKind.i64.wrap (k - 1) = k1) (hR : R = false) (hE : E = 1) (hF : F = 1) (hz : z < 0) :
    Calls Try.prog 8 #[.int .i64 P, .slice ao n cap, .int .i64 z] w fun e w' => e = .returned (.bool true) ∧ Below w.heap.size w w' := by
  have h3' : ¬ (300 < (n : Int)) := by omega
  subst hR hE hF
  go_enter Try.func8, Try.ntmps8
  go_wp2_with (first
    | (go_at_call 9; with_reducible refine (c0 _).mono ?_; rintro e w1 ⟨rfl, hbc⟩)
    | (go_at_call 14; with_reducible refine (cR _ hbc).mono ?_; rintro e w1 ⟨rfl, hb1⟩; have hbc := next hbc hb1; clear hb1)
    | (go_at_call 18; with_reducible refine (cW _ hbc).mono ?_; rintro e w1 ⟨bo, m, c, rfl, hb1⟩; have hbc := next hbc hb1; clear hb1)
    | (go_at_call 18; with_reducible refine (cV _ hbc).mono ?_; rintro e w1 ⟨bo, m, c, rfl, hb1⟩; have hbc := next hbc hb1; clear hb1)
    | (go_at_call 16; with_reducible refine (cK _).mono ?_; rintro e w1 ⟨rfl, hb1⟩; have hbc := next hbc hb1; clear hb1)
    | (go_at_call 16; with_reducible refine (cM _).mono ?_; rintro e w1 ⟨rfl, hb1⟩; have hbc := next hbc hb1; clear hb1))
  go_ret
  exact ⟨rfl, hbc⟩
set_option maxHeartbeats 2000000 in
theorem counts_n1 (w : World) (P : Int) (ao : Option Addr) (n cap : Nat) (l : List Blk) (z : Int) (hn : n ≤ 9223372036854775807) (c0 : ∀ w, Calls Try.prog 9 #[] w fun e w' => e = .returned (.bool true) ∧ Below w.heap.size w w') (h3 : n ≤ 300) (k k1 q q1 : Int) (R : Bool) (E F : Int) (cR : ∀ w', Below w.heap.size w w' → Calls Try.prog 14 #[.int .i64 P, .slice ao n cap] w' fun e w'' => e = .returned (.bool R) ∧ Below w'.heap.size w' w'') (cW : ∀ w', Below w.heap.size w w' → Calls Try.prog 18 #[.int .i64 P, .int .i64 k, .slice ao n cap] w' fun e w'' => ∃ bo m c, e = .returned (.tuple #[.slice bo m c, .int .i64 E]) ∧ Below w'.heap.size w' w'') (cV : ∀ w', Below w.heap.size w w' → Calls Try.prog 18 #[.int .i64 P, .int .i64 k1, .slice ao n cap] w' fun e w'' => ∃ bo m c, e = .returned (.tuple #[.slice bo m c, .int .i64 F]) ∧ Below w'.heap.size w' w'') (cK : ∀ w', Calls Try.prog 16 #[.int .i64 (n : Int)] w' fun e w'' => e = .returned (.int .i64 k) ∧ Below w'.heap.size w' w'') (cM : ∀ w', Calls Try.prog 16 #[.int .i64 64] w' fun e w'' => e = .returned (.int .i64 13) ∧ Below w'.heap.size w' w'') (hk : IntKind.i64.wrap (k - 1) = k1) (hR : R = false) (hE : E = 1) (hF : F = 1) (hz : ¬ z < 0) (hz2 : 1099511627776 < z) :
    Calls Try.prog 8 #[.int .i64 P, .slice ao n cap, .int .i64 z] w fun e w' => e = .returned (.bool true) ∧ Below w.heap.size w w' := by
  have h3' : ¬ (300 < (n : Int)) := by omega
  subst hR hE hF
  go_enter Try.func8, Try.ntmps8
  go_wp2_with (first
    | (go_at_call 9; with_reducible refine (c0 _).mono ?_; rintro e w1 ⟨rfl, hbc⟩)
    | (go_at_call 14; with_reducible refine (cR _ hbc).mono ?_; rintro e w1 ⟨rfl, hb1⟩; have hbc := next hbc hb1; clear hb1)
    | (go_at_call 18; with_reducible refine (cW _ hbc).mono ?_; rintro e w1 ⟨bo, m, c, rfl, hb1⟩; have hbc := next hbc hb1; clear hb1)
    | (go_at_call 18; with_reducible refine (cV _ hbc).mono ?_; rintro e w1 ⟨bo, m, c, rfl, hb1⟩; have hbc := next hbc hb1; clear hb1)
    | (go_at_call 16; with_reducible refine (cK _).mono ?_; rintro e w1 ⟨rfl, hb1⟩; have hbc := next hbc hb1; clear hb1)
    | (go_at_call 16; with_reducible refine (cM _).mono ?_; rintro e w1 ⟨rfl, hb1⟩; have hbc := next hbc hb1; clear hb1))
  go_ret
  exact ⟨rfl, hbc⟩
set_option maxHeartbeats 2000000 in
theorem counts_n2 (w : World) (P : Int) (ao : Option Addr) (n cap : Nat) (l : List Blk) (z : Int) (hn : n ≤ 9223372036854775807) (c0 : ∀ w, Calls Try.prog 9 #[] w fun e w' => e = .returned (.bool true) ∧ Below w.heap.size w w') (h3 : n ≤ 300) (k k1 q q1 : Int) (R : Bool) (E F : Int) (cR : ∀ w', Below w.heap.size w w' → Calls Try.prog 14 #[.int .i64 P, .slice ao n cap] w' fun e w'' => e = .returned (.bool R) ∧ Below w'.heap.size w' w'') (cW : ∀ w', Below w.heap.size w w' → Calls Try.prog 18 #[.int .i64 P, .int .i64 k, .slice ao n cap] w' fun e w'' => ∃ bo m c, e = .returned (.tuple #[.slice bo m c, .int .i64 E]) ∧ Below w'.heap.size w' w'') (cV : ∀ w', Below w.heap.size w w' → Calls Try.prog 18 #[.int .i64 P, .int .i64 k1, .slice ao n cap] w' fun e w'' => ∃ bo m c, e = .returned (.tuple #[.slice bo m c, .int .i64 F]) ∧ Below w'.heap.size w' w'') (cK : ∀ w', Calls Try.prog 16 #[.int .i64 (n : Int)] w' fun e w'' => e = .returned (.int .i64 k) ∧ Below w'.heap.size w' w'') (cM : ∀ w', Calls Try.prog 16 #[.int .i64 64] w' fun e w'' => e = .returned (.int .i64 13) ∧ Below w'.heap.size w' w'') (hk : IntKind.i64.wrap (k - 1) = k1) (hR : R = false) (hE : E = 1) (hF : F = 1) (hz : ¬ z < 0) (hz2 : ¬ 1099511627776 < z) (cQ : ∀ w', Calls Try.prog 16 #[.int .i64 z] w' fun e w'' => e = .returned (.int .i64 q) ∧ Below w'.heap.size w' w'') (cP : ∀ w', Calls Try.prog 16 #[.int .i64 (z + 1)] w' fun e w'' => e = .returned (.int .i64 q1) ∧ Below w'.heap.size w' w'') (hq : 1 ≤ q) (hq1 : q ≤ q1) (hq2 : q1 ≤ q + 20) (hx : IntKind.i64.wrap (z + 1) = z + 1) (hy : IntKind.i64.wrap (q + 20) = q + 20) :
    Calls Try.prog 8 #[.int .i64 P, .slice ao n cap, .int .i64 z] w fun e w' => e = .returned (.bool true) ∧ Below w.heap.size w w' := by
  have h3' : ¬ (300 < (n : Int)) := by omega
  subst hR hE hF
  go_enter Try.func8, Try.ntmps8
  go_wp2_with (first
    | (go_at_call 9; with_reducible refine (c0 _).mono ?_; rintro e w1 ⟨rfl, hbc⟩)
    | (go_at_call 14; with_reducible refine (cR _ hbc).mono ?_; rintro e w1 ⟨rfl, hb1⟩; have hbc := next hbc hb1; clear hb1)
    | (go_at_call 18; with_reducible refine (cW _ hbc).mono ?_; rintro e w1 ⟨bo, m, c, rfl, hb1⟩; have hbc := next hbc hb1; clear hb1)
    | (go_at_call 18; with_reducible refine (cV _ hbc).mono ?_; rintro e w1 ⟨bo, m, c, rfl, hb1⟩; have hbc := next hbc hb1; clear hb1)
    | (go_at_call 16; with_reducible refine (cK _).mono ?_; rintro e w1 ⟨rfl, hb1⟩; have hbc := next hbc hb1; clear hb1)
    | (go_at_call 16; with_reducible refine (cM _).mono ?_; rintro e w1 ⟨rfl, hb1⟩; have hbc := next hbc hb1; clear hb1)
    | (go_at_call 16; with_reducible refine (cQ _).mono ?_; rintro e w1 ⟨rfl, hb1⟩; have hbc := next hbc hb1; clear hb1)
    | (go_at_call 16; with_reducible refine (cP _).mono ?_; rintro e w1 ⟨rfl, hb1⟩; have hbc := next hbc hb1; clear hb1))
  go_ret
  exact ⟨rfl, hbc⟩
theorem treeCounts_walk (w : World) (P : Int) (hP : (Lit.int .i64 P).wf = true) (ao : Option Addr) (n cap : Nat) (l : List Blk) (h : Bs w ao n cap l) (hc : cap * 24 ≤ 140737488351232) (z : Int) (hz : (Lit.int .i64 z).wf = true) :
    Calls Try.prog 8 #[.int .i64 P, .slice ao n cap, .int .i64 z] w fun e w' => e = .returned (.bool true) ∧ Below w.heap.size w w' := by
  have hl := h.len
  have hn : n ≤ 9223372036854775807 := by have := h.room; omega
  have c0 := smallX_any
  by_cases h3 : 300 < (n : Int)
  · exact counts_far w P ao n cap l z hn c0 h3
  have h3 : n ≤ 300 := by omega
  have cR := fun w' (hb : Below w.heap.size w w') => tright_bs P ao n cap l w' (h.below hb) hn
  have cX := fun x w' (hb : Below w.heap.size w w') => (twrite_bs P x ao n cap l w' (h.below hb) hn).mono (fun e w'' (hh : ∃ bo m c, e = .returned (.tuple #[.slice bo m c, .int .i64 (wtE P x l)]) ∧ Own .u8 5 w'.heap.size w'' bo m c (wtL P x l) ∧ Below w'.heap.size w' w'') => (show ∃ bo m c, e = .returned (.tuple #[.slice bo m c, .int .i64 (wtE P x l)]) ∧ Below w'.heap.size w' w'' from let ⟨bo, m, c, h1, _, h2⟩ := hh; ⟨bo, m, c, h1, h2⟩))
  have cK := fun w' => tnodes_any (n : Int) (by omega) w'
  have cM := fun w' => tnodes_any 64 (by omega) w'
  simp only [nt_64] at cM
  have hk1 : 1 ≤ ntN (n : Int) := (nt_counts (n := (n : Int)) (by omega) (by omega)).1
  have hk2 : ntN (n : Int) ≤ 600 := by
    rw [nt_nat]
    have h1 := ndS_two (abv n) (abv n) (Nat.le_refl _)
    have h2 : abv n ≤ 44 := by unfold abv; omega
    omega
  have hk : IntKind.i64.wrap (ntN (n : Int) - 1) = ntN (n : Int) - 1 := IntWalk.i64_in _ ⟨by omega, by omega⟩
  by_cases hr : RightX P l
  · have hn64 := hr.n64
    have hk13 : ntN (n : Int) ≤ 13 := by rw [nt_nat]; have := nt_small (n := n) (by omega); omega
    have hE : wtE P (ntN (n : Int)) l = 0 := (wt_ok hr ⟨by rw [hl]; exact Int.le_refl _, hk13⟩).1
    have hF : wtE P (ntN (n : Int) - 1) l = 2 := (wt_long hr (fun c => by have := c.1; rw [hl] at this; omega)).1
    by_cases z0 : z < 0
    · exact counts_r0 w P ao n cap l z hn c0 h3 _ _ 0 0 _ _ _ cR (cX _) (cX _) cK cM hk (rxB_t hr) hE hF hk13 z0
    by_cases z1 : 1099511627776 < z
    · exact counts_r1 w P ao n cap l z hn c0 h3 _ _ 0 0 _ _ _ cR (cX _) (cX _) cK cM hk (rxB_t hr) hE hF hk13 z0 z1
    obtain ⟨q0, q1, q2⟩ := nt_counts (n := z) (by omega) (by omega)
    have q3 : ntN z ≤ 9007199254740992 := by
      obtain ⟨N, rfl⟩ : ∃ N : Nat, z = N := ⟨z.toNat, by omega⟩
      rw [nt_nat]
      have h1 := ndS_two (abv N) (abv N) (Nat.le_refl _)
      have h2 : abv N ≤ 1099511627776 := by unfold abv; omega
      omega
    exact counts_r2 w P ao n cap l z hn c0 h3 _ _ _ _ _ _ _ cR (cX _) (cX _) cK cM hk (rxB_t hr) hE hF hk13 z0 z1 (fun w' => tnodes_any z (by omega) w') (fun w' => tnodes_any (z + 1) (by omega) w') q0 q1 q2 (IntWalk.i64_in _ ⟨by omega, by omega⟩) (IntWalk.i64_in _ ⟨by omega, by omega⟩)
  · have hE := (wt_arg (room := ntN (n : Int)) hr).1
    have hF := (wt_arg (room := ntN (n : Int) - 1) hr).1
    by_cases z0 : z < 0
    · exact counts_n0 w P ao n cap l z hn c0 h3 _ _ 0 0 _ _ _ cR (cX _) (cX _) cK cM hk (rxB_f hr) hE hF z0
    by_cases z1 : 1099511627776 < z
    · exact counts_n1 w P ao n cap l z hn c0 h3 _ _ 0 0 _ _ _ cR (cX _) (cX _) cK cM hk (rxB_f hr) hE hF z0 z1
    obtain ⟨q0, q1, q2⟩ := nt_counts (n := z) (by omega) (by omega)
    have q3 : ntN z ≤ 9007199254740992 := by
      obtain ⟨N, rfl⟩ : ∃ N : Nat, z = N := ⟨z.toNat, by omega⟩
      rw [nt_nat]
      have h1 := ndS_two (abv N) (abv N) (Nat.le_refl _)
      have h2 : abv N ≤ 1099511627776 := by unfold abv; omega
      omega
    exact counts_n2 w P ao n cap l z hn c0 h3 _ _ _ _ _ _ _ cR (cX _) (cX _) cK cM hk (rxB_f hr) hE hF z0 z1 (fun w' => tnodes_any z (by omega) w') (fun w' => tnodes_any (z + 1) (by omega) w') q0 q1 q2 (IntWalk.i64_in _ ⟨by omega, by omega⟩) (IntWalk.i64_in _ ⟨by omega, by omega⟩)
end Go.Proofs.Ythkloknongkpdaa
