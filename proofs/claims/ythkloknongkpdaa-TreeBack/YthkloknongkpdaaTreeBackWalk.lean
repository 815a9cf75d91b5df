/- 'TreeBack' walked: what is written is read, and the other way round; extents of kinds are right. -/
import Derived.Test.YthkloknongkpdaaTreeReadsWalk
import Derived.BigQuiet
namespace Go.Proofs.Ythkloknongkpdaa
set_option maxRecDepth 100000
open Go.RowKit
set_option linter.unusedVariables false
set_option linter.unusedSimpArgs false
set_option maxRecDepth 100000

theorem back_far0 (w : World) (ko : Option Addr) (mk kc : Nat) (P room : Int) (ao : Option Addr) (n cap : Nat) (bo : Option Addr) (mb bc : Nat) (c0 : ∀ w, Calls Try.prog 9 #[] w fun e w' => e = .returned (.bool true) ∧ Below w.heap.size w w') (h3 : 300 < (n : Int)) :
    Calls Try.prog 6 #[.slice ko mk kc, .int .i64 P, .int .i64 room, .slice ao n cap, .slice bo mb bc] w fun e w' => e = .returned (.bool true) ∧ Below w.heap.size w w' := by
  go_enter Try.func6, Try.ntmps6
  go_wp2_with (first
    | (go_at_call 9; with_reducible refine (c0 _).mono ?_; rintro e w1 ⟨rfl, hbc⟩))
  go_ret
  exact ⟨rfl, hbc⟩
theorem back_far1 (w : World) (ko : Option Addr) (mk kc : Nat) (P room : Int) (ao : Option Addr) (n cap : Nat) (bo : Option Addr) (mb bc : Nat) (c0 : ∀ w, Calls Try.prog 9 #[] w fun e w' => e = .returned (.bool true) ∧ Below w.heap.size w w') (h3 : ¬ 300 < (n : Int)) (h4 : 8192 < (mb : Int)) :
    Calls Try.prog 6 #[.slice ko mk kc, .int .i64 P, .int .i64 room, .slice ao n cap, .slice bo mb bc] w fun e w' => e = .returned (.bool true) ∧ Below w.heap.size w w' := by
  go_enter Try.func6, Try.ntmps6
  go_wp2_with (first
    | (go_at_call 9; with_reducible refine (c0 _).mono ?_; rintro e w1 ⟨rfl, hbc⟩))
  go_ret
  exact ⟨rfl, hbc⟩
set_option maxHeartbeats 2000000 in
theorem back_111 (w : World) (ko : Option Addr) (mk kc : Nat) (P room : Int) (ao : Option Addr) (n cap : Nat) (bo : Option Addr) (mb bc : Nat) (c0 : ∀ w, Calls Try.prog 9 #[] w fun e w' => e = .returned (.bool true) ∧ Below w.heap.size w w') (h3 : ¬ 300 < (n : Int)) (h4 : ¬ 8192 < (mb : Int)) (X M l : List Blk) (Z zs : List Int) (E : Int) (hs : Sl .u8 w bo mb bc zs) (cF : ∀ w', Below w.heap.size w w' → Calls Try.prog 10 #[.slice ko mk kc] w' fun e w'' => ∃ lo ml lc, e = .returned (.tuple #[.slice lo ml lc, .bool true]) ∧ Bs w'' lo ml lc X ∧ Below w'.heap.size w' w'') (cW : ∀ w', Below w.heap.size w w' → Calls Try.prog 18 #[.int .i64 P, .int .i64 room, .slice ao n cap] w' fun e w'' => ∃ lo ml lc, e = .returned (.tuple #[.slice lo ml lc, .int .i64 0]) ∧ Own .u8 5 w'.heap.size w'' lo ml lc Z ∧ Below w'.heap.size w' w'') (cB : ∀ w', Below w.heap.size w w' → Calls Try.prog 22 #[.int .i64 P, .slice bo mb bc] w' fun e w'' => ∃ lo ml lc, e = .returned (.tuple #[.slice lo ml lc, .bool true]) ∧ Bs w'' lo ml lc M ∧ Below w'.heap.size w' w'') (cR : ∀ lo ml lc w', Bs w' lo ml lc X → Calls Try.prog 14 #[.int .i64 (mk : Int), .slice lo ml lc] w' fun e w'' => e = .returned (.bool true) ∧ Below w'.heap.size w' w'') (cQ : ∀ lo ml lc w', Sl .u8 w' lo ml lc Z → Calls Try.prog 22 #[.int .i64 P, .slice lo ml lc] w' fun e w'' => ∃ lo ml lc, e = .returned (.tuple #[.slice lo ml lc, .bool true]) ∧ Bs w'' lo ml lc l ∧ Below w'.heap.size w' w'') (cS : ∀ lo ml lc w', Bs w' lo ml lc l → Below w.heap.size w w' → Calls Try.prog 12 #[.slice ao n cap, .slice lo ml lc] w' fun e w'' => e = .returned (.bool true) ∧ Below w'.heap.size w' w'') (K : Nat) (hK : Z.length = K) (hKw : IntKind.i64.wrap (128 * room) = (K : Int)) (q : Int) (cV : ∀ lo ml lc w', Bs w' lo ml lc M → Calls Try.prog 18 #[.int .i64 P, .int .i64 q, .slice lo ml lc] w' fun e w'' => ∃ lo ml lc, e = .returned (.tuple #[.slice lo ml lc, .int .i64 0]) ∧ Own .u8 5 w'.heap.size w'' lo ml lc zs ∧ Below w'.heap.size w' w'') (hq : Int.tdiv (mb : Int) 128 = q) (hq' : (mb : Int) / 128 = q) (hqw : IntKind.i64.wrap q = q) :
    Calls Try.prog 6 #[.slice ko mk kc, .int .i64 P, .int .i64 room, .slice ao n cap, .slice bo mb bc] w fun e w' => e = .returned (.bool true) ∧ Below w.heap.size w w' := by
  go_enter Try.func6, Try.ntmps6
  go_wp2_with (first
    | (go_at_call 9; with_reducible refine (c0 _).mono ?_; rintro e w1 ⟨rfl, hbc⟩)
    | (go_at_call 10; with_reducible refine (cF _ hbc).mono ?_; rintro e w1 ⟨lo, ml, lc, rfl, hX, hb1⟩; have hbc := next hbc hb1; clear hb1)
    | (go_at_call 14; with_reducible refine (cR _ _ _ _ hX).mono ?_; rintro e w1 ⟨rfl, hb1⟩; have hbc := next hbc hb1; clear hb1)
    | (go_at_call 18; with_reducible refine (cW _ hbc).mono ?_; rintro e w1 ⟨zo, mz, zc, rfl, hZ, hb1⟩; obtain rfl : mz = K := (by have := hZ.len; omega); have hbc := next hbc hb1; clear hb1)
    | (go_at_call 22; with_reducible refine (cQ _ _ _ _ hZ.sl).mono ?_; rintro e w1 ⟨qo, mq, qc, rfl, hQ, hb1⟩; have hbc := next hbc hb1; clear hb1)
    | (go_at_call 12; with_reducible refine (cS _ _ _ _ hQ hbc).mono ?_; rintro e w1 ⟨rfl, hb1⟩; have hbc := next hbc hb1; clear hb1)
    | (go_at_call 22; with_reducible refine (cB _ hbc).mono ?_; rintro e w1 ⟨mo, mm, mc, rfl, hM, hb1⟩; have hbc := next hbc hb1; clear hb1)
    | (go_at_call 18; with_reducible refine (cV _ _ _ _ hM).mono ?_; rintro e w1 ⟨vo, mv, vc, rfl, hV, hb1⟩; have hbc := next hbc hb1; clear hb1; have tx := hV.sl.text (P := Try.prog) Try.underlying32 Try.underlying5 Try.underlying9; have ty := (hs.below hbc).text (P := Try.prog) Try.underlying32 Try.underlying5 Try.underlying9))
  go_ret
  exact ⟨rfl, hbc⟩
set_option maxHeartbeats 2000000 in
theorem back_110 (w : World) (ko : Option Addr) (mk kc : Nat) (P room : Int) (ao : Option Addr) (n cap : Nat) (bo : Option Addr) (mb bc : Nat) (c0 : ∀ w, Calls Try.prog 9 #[] w fun e w' => e = .returned (.bool true) ∧ Below w.heap.size w w') (h3 : ¬ 300 < (n : Int)) (h4 : ¬ 8192 < (mb : Int)) (X M l : List Blk) (Z zs : List Int) (E : Int) (hs : Sl .u8 w bo mb bc zs) (cF : ∀ w', Below w.heap.size w w' → Calls Try.prog 10 #[.slice ko mk kc] w' fun e w'' => ∃ lo ml lc, e = .returned (.tuple #[.slice lo ml lc, .bool true]) ∧ Bs w'' lo ml lc X ∧ Below w'.heap.size w' w'') (cW : ∀ w', Below w.heap.size w w' → Calls Try.prog 18 #[.int .i64 P, .int .i64 room, .slice ao n cap] w' fun e w'' => ∃ lo ml lc, e = .returned (.tuple #[.slice lo ml lc, .int .i64 0]) ∧ Own .u8 5 w'.heap.size w'' lo ml lc Z ∧ Below w'.heap.size w' w'') (cB : ∀ w', Below w.heap.size w w' → Calls Try.prog 22 #[.int .i64 P, .slice bo mb bc] w' fun e w'' => ∃ lo ml lc, e = .returned (.tuple #[.slice lo ml lc, .bool false]) ∧ Bs w'' lo ml lc M ∧ Below w'.heap.size w' w'') (cR : ∀ lo ml lc w', Bs w' lo ml lc X → Calls Try.prog 14 #[.int .i64 (mk : Int), .slice lo ml lc] w' fun e w'' => e = .returned (.bool true) ∧ Below w'.heap.size w' w'') (cQ : ∀ lo ml lc w', Sl .u8 w' lo ml lc Z → Calls Try.prog 22 #[.int .i64 P, .slice lo ml lc] w' fun e w'' => ∃ lo ml lc, e = .returned (.tuple #[.slice lo ml lc, .bool true]) ∧ Bs w'' lo ml lc l ∧ Below w'.heap.size w' w'') (cS : ∀ lo ml lc w', Bs w' lo ml lc l → Below w.heap.size w w' → Calls Try.prog 12 #[.slice ao n cap, .slice lo ml lc] w' fun e w'' => e = .returned (.bool true) ∧ Below w'.heap.size w' w'') (K : Nat) (hK : Z.length = K) (hKw : IntKind.i64.wrap (128 * room) = (K : Int)) (hM0 : M = []) :
    Calls Try.prog 6 #[.slice ko mk kc, .int .i64 P, .int .i64 room, .slice ao n cap, .slice bo mb bc] w fun e w' => e = .returned (.bool true) ∧ Below w.heap.size w w' := by
  go_enter Try.func6, Try.ntmps6
  go_wp2_with (first
    | (go_at_call 9; with_reducible refine (c0 _).mono ?_; rintro e w1 ⟨rfl, hbc⟩)
    | (go_at_call 10; with_reducible refine (cF _ hbc).mono ?_; rintro e w1 ⟨lo, ml, lc, rfl, hX, hb1⟩; have hbc := next hbc hb1; clear hb1)
    | (go_at_call 14; with_reducible refine (cR _ _ _ _ hX).mono ?_; rintro e w1 ⟨rfl, hb1⟩; have hbc := next hbc hb1; clear hb1)
    | (go_at_call 18; with_reducible refine (cW _ hbc).mono ?_; rintro e w1 ⟨zo, mz, zc, rfl, hZ, hb1⟩; obtain rfl : mz = K := (by have := hZ.len; omega); have hbc := next hbc hb1; clear hb1)
    | (go_at_call 22; with_reducible refine (cQ _ _ _ _ hZ.sl).mono ?_; rintro e w1 ⟨qo, mq, qc, rfl, hQ, hb1⟩; have hbc := next hbc hb1; clear hb1)
    | (go_at_call 12; with_reducible refine (cS _ _ _ _ hQ hbc).mono ?_; rintro e w1 ⟨rfl, hb1⟩; have hbc := next hbc hb1; clear hb1)
    | (go_at_call 22; with_reducible refine (cB _ hbc).mono ?_; rintro e w1 ⟨mo, mm, mc, rfl, hM, hb1⟩; obtain rfl : 0 = mm := (by have := hM.len; rw [hM0, List.length_nil] at this; exact this); have hbc := next hbc hb1; clear hb1))
  go_ret
  exact ⟨rfl, hbc⟩
set_option maxHeartbeats 2000000 in
theorem back_101 (w : World) (ko : Option Addr) (mk kc : Nat) (P room : Int) (ao : Option Addr) (n cap : Nat) (bo : Option Addr) (mb bc : Nat) (c0 : ∀ w, Calls Try.prog 9 #[] w fun e w' => e = .returned (.bool true) ∧ Below w.heap.size w w') (h3 : ¬ 300 < (n : Int)) (h4 : ¬ 8192 < (mb : Int)) (X M l : List Blk) (Z zs : List Int) (E : Int) (hs : Sl .u8 w bo mb bc zs) (cF : ∀ w', Below w.heap.size w w' → Calls Try.prog 10 #[.slice ko mk kc] w' fun e w'' => ∃ lo ml lc, e = .returned (.tuple #[.slice lo ml lc, .bool true]) ∧ Bs w'' lo ml lc X ∧ Below w'.heap.size w' w'') (cW : ∀ w', Below w.heap.size w w' → Calls Try.prog 18 #[.int .i64 P, .int .i64 room, .slice ao n cap] w' fun e w'' => ∃ lo ml lc, e = .returned (.tuple #[.slice lo ml lc, .int .i64 E]) ∧ Own .u8 5 w'.heap.size w'' lo ml lc Z ∧ Below w'.heap.size w' w'') (cB : ∀ w', Below w.heap.size w w' → Calls Try.prog 22 #[.int .i64 P, .slice bo mb bc] w' fun e w'' => ∃ lo ml lc, e = .returned (.tuple #[.slice lo ml lc, .bool true]) ∧ Bs w'' lo ml lc M ∧ Below w'.heap.size w' w'') (cR : ∀ lo ml lc w', Bs w' lo ml lc X → Calls Try.prog 14 #[.int .i64 (mk : Int), .slice lo ml lc] w' fun e w'' => e = .returned (.bool true) ∧ Below w'.heap.size w' w'') (hE : (E == 0) = false) (q : Int) (cV : ∀ lo ml lc w', Bs w' lo ml lc M → Calls Try.prog 18 #[.int .i64 P, .int .i64 q, .slice lo ml lc] w' fun e w'' => ∃ lo ml lc, e = .returned (.tuple #[.slice lo ml lc, .int .i64 0]) ∧ Own .u8 5 w'.heap.size w'' lo ml lc zs ∧ Below w'.heap.size w' w'') (hq : Int.tdiv (mb : Int) 128 = q) (hq' : (mb : Int) / 128 = q) (hqw : IntKind.i64.wrap q = q) :
    Calls Try.prog 6 #[.slice ko mk kc, .int .i64 P, .int .i64 room, .slice ao n cap, .slice bo mb bc] w fun e w' => e = .returned (.bool true) ∧ Below w.heap.size w w' := by
  go_enter Try.func6, Try.ntmps6
  go_wp2_with (first
    | (go_at_call 9; with_reducible refine (c0 _).mono ?_; rintro e w1 ⟨rfl, hbc⟩)
    | (go_at_call 10; with_reducible refine (cF _ hbc).mono ?_; rintro e w1 ⟨lo, ml, lc, rfl, hX, hb1⟩; have hbc := next hbc hb1; clear hb1)
    | (go_at_call 14; with_reducible refine (cR _ _ _ _ hX).mono ?_; rintro e w1 ⟨rfl, hb1⟩; have hbc := next hbc hb1; clear hb1)
    | (go_at_call 18; with_reducible refine (cW _ hbc).mono ?_; rintro e w1 ⟨zo, mz, zc, rfl, hZ, hb1⟩; have hbc := next hbc hb1; clear hb1)
    | (go_at_call 22; with_reducible refine (cB _ hbc).mono ?_; rintro e w1 ⟨mo, mm, mc, rfl, hM, hb1⟩; have hbc := next hbc hb1; clear hb1)
    | (go_at_call 18; with_reducible refine (cV _ _ _ _ hM).mono ?_; rintro e w1 ⟨vo, mv, vc, rfl, hV, hb1⟩; have hbc := next hbc hb1; clear hb1; have tx := hV.sl.text (P := Try.prog) Try.underlying32 Try.underlying5 Try.underlying9; have ty := (hs.below hbc).text (P := Try.prog) Try.underlying32 Try.underlying5 Try.underlying9))
  go_ret
  exact ⟨rfl, hbc⟩
set_option maxHeartbeats 2000000 in
theorem back_100 (w : World) (ko : Option Addr) (mk kc : Nat) (P room : Int) (ao : Option Addr) (n cap : Nat) (bo : Option Addr) (mb bc : Nat) (c0 : ∀ w, Calls Try.prog 9 #[] w fun e w' => e = .returned (.bool true) ∧ Below w.heap.size w w') (h3 : ¬ 300 < (n : Int)) (h4 : ¬ 8192 < (mb : Int)) (X M l : List Blk) (Z zs : List Int) (E : Int) (hs : Sl .u8 w bo mb bc zs) (cF : ∀ w', Below w.heap.size w w' → Calls Try.prog 10 #[.slice ko mk kc] w' fun e w'' => ∃ lo ml lc, e = .returned (.tuple #[.slice lo ml lc, .bool true]) ∧ Bs w'' lo ml lc X ∧ Below w'.heap.size w' w'') (cW : ∀ w', Below w.heap.size w w' → Calls Try.prog 18 #[.int .i64 P, .int .i64 room, .slice ao n cap] w' fun e w'' => ∃ lo ml lc, e = .returned (.tuple #[.slice lo ml lc, .int .i64 E]) ∧ Own .u8 5 w'.heap.size w'' lo ml lc Z ∧ Below w'.heap.size w' w'') (cB : ∀ w', Below w.heap.size w w' → Calls Try.prog 22 #[.int .i64 P, .slice bo mb bc] w' fun e w'' => ∃ lo ml lc, e = .returned (.tuple #[.slice lo ml lc, .bool false]) ∧ Bs w'' lo ml lc M ∧ Below w'.heap.size w' w'') (cR : ∀ lo ml lc w', Bs w' lo ml lc X → Calls Try.prog 14 #[.int .i64 (mk : Int), .slice lo ml lc] w' fun e w'' => e = .returned (.bool true) ∧ Below w'.heap.size w' w'') (hE : (E == 0) = false) (hM0 : M = []) :
    Calls Try.prog 6 #[.slice ko mk kc, .int .i64 P, .int .i64 room, .slice ao n cap, .slice bo mb bc] w fun e w' => e = .returned (.bool true) ∧ Below w.heap.size w w' := by
  go_enter Try.func6, Try.ntmps6
  go_wp2_with (first
    | (go_at_call 9; with_reducible refine (c0 _).mono ?_; rintro e w1 ⟨rfl, hbc⟩)
    | (go_at_call 10; with_reducible refine (cF _ hbc).mono ?_; rintro e w1 ⟨lo, ml, lc, rfl, hX, hb1⟩; have hbc := next hbc hb1; clear hb1)
    | (go_at_call 14; with_reducible refine (cR _ _ _ _ hX).mono ?_; rintro e w1 ⟨rfl, hb1⟩; have hbc := next hbc hb1; clear hb1)
    | (go_at_call 18; with_reducible refine (cW _ hbc).mono ?_; rintro e w1 ⟨zo, mz, zc, rfl, hZ, hb1⟩; have hbc := next hbc hb1; clear hb1)
    | (go_at_call 22; with_reducible refine (cB _ hbc).mono ?_; rintro e w1 ⟨mo, mm, mc, rfl, hM, hb1⟩; obtain rfl : 0 = mm := (by have := hM.len; rw [hM0, List.length_nil] at this; exact this); have hbc := next hbc hb1; clear hb1))
  go_ret
  exact ⟨rfl, hbc⟩
set_option maxHeartbeats 2000000 in
theorem back_011 (w : World) (ko : Option Addr) (mk kc : Nat) (P room : Int) (ao : Option Addr) (n cap : Nat) (bo : Option Addr) (mb bc : Nat) (c0 : ∀ w, Calls Try.prog 9 #[] w fun e w' => e = .returned (.bool true) ∧ Below w.heap.size w w') (h3 : ¬ 300 < (n : Int)) (h4 : ¬ 8192 < (mb : Int)) (X M l : List Blk) (Z zs : List Int) (E : Int) (hs : Sl .u8 w bo mb bc zs) (cF : ∀ w', Below w.heap.size w w' → Calls Try.prog 10 #[.slice ko mk kc] w' fun e w'' => ∃ lo ml lc, e = .returned (.tuple #[.slice lo ml lc, .bool false]) ∧ Bs w'' lo ml lc X ∧ Below w'.heap.size w' w'') (cW : ∀ w', Below w.heap.size w w' → Calls Try.prog 18 #[.int .i64 P, .int .i64 room, .slice ao n cap] w' fun e w'' => ∃ lo ml lc, e = .returned (.tuple #[.slice lo ml lc, .int .i64 0]) ∧ Own .u8 5 w'.heap.size w'' lo ml lc Z ∧ Below w'.heap.size w' w'') (cB : ∀ w', Below w.heap.size w w' → Calls Try.prog 22 #[.int .i64 P, .slice bo mb bc] w' fun e w'' => ∃ lo ml lc, e = .returned (.tuple #[.slice lo ml lc, .bool true]) ∧ Bs w'' lo ml lc M ∧ Below w'.heap.size w' w'') (cQ : ∀ lo ml lc w', Sl .u8 w' lo ml lc Z → Calls Try.prog 22 #[.int .i64 P, .slice lo ml lc] w' fun e w'' => ∃ lo ml lc, e = .returned (.tuple #[.slice lo ml lc, .bool true]) ∧ Bs w'' lo ml lc l ∧ Below w'.heap.size w' w'') (cS : ∀ lo ml lc w', Bs w' lo ml lc l → Below w.heap.size w w' → Calls Try.prog 12 #[.slice ao n cap, .slice lo ml lc] w' fun e w'' => e = .returned (.bool true) ∧ Below w'.heap.size w' w'') (K : Nat) (hK : Z.length = K) (hKw : IntKind.i64.wrap (128 * room) = (K : Int)) (q : Int) (cV : ∀ lo ml lc w', Bs w' lo ml lc M → Calls Try.prog 18 #[.int .i64 P, .int .i64 q, .slice lo ml lc] w' fun e w'' => ∃ lo ml lc, e = .returned (.tuple #[.slice lo ml lc, .int .i64 0]) ∧ Own .u8 5 w'.heap.size w'' lo ml lc zs ∧ Below w'.heap.size w' w'') (hq : Int.tdiv (mb : Int) 128 = q) (hq' : (mb : Int) / 128 = q) (hqw : IntKind.i64.wrap q = q) :
    Calls Try.prog 6 #[.slice ko mk kc, .int .i64 P, .int .i64 room, .slice ao n cap, .slice bo mb bc] w fun e w' => e = .returned (.bool true) ∧ Below w.heap.size w w' := by
  go_enter Try.func6, Try.ntmps6
  go_wp2_with (first
    | (go_at_call 9; with_reducible refine (c0 _).mono ?_; rintro e w1 ⟨rfl, hbc⟩)
    | (go_at_call 10; with_reducible refine (cF _ hbc).mono ?_; rintro e w1 ⟨lo, ml, lc, rfl, hX, hb1⟩; have hbc := next hbc hb1; clear hb1)
    | (go_at_call 18; with_reducible refine (cW _ hbc).mono ?_; rintro e w1 ⟨zo, mz, zc, rfl, hZ, hb1⟩; obtain rfl : mz = K := (by have := hZ.len; omega); have hbc := next hbc hb1; clear hb1)
    | (go_at_call 22; with_reducible refine (cQ _ _ _ _ hZ.sl).mono ?_; rintro e w1 ⟨qo, mq, qc, rfl, hQ, hb1⟩; have hbc := next hbc hb1; clear hb1)
    | (go_at_call 12; with_reducible refine (cS _ _ _ _ hQ hbc).mono ?_; rintro e w1 ⟨rfl, hb1⟩; have hbc := next hbc hb1; clear hb1)
    | (go_at_call 22; with_reducible refine (cB _ hbc).mono ?_; rintro e w1 ⟨mo, mm, mc, rfl, hM, hb1⟩; have hbc := next hbc hb1; clear hb1)
    | (go_at_call 18; with_reducible refine (cV _ _ _ _ hM).mono ?_; rintro e w1 ⟨vo, mv, vc, rfl, hV, hb1⟩; have hbc := next hbc hb1; clear hb1; have tx := hV.sl.text (P := Try.prog) Try.underlying32 Try.underlying5 Try.underlying9; have ty := (hs.below hbc).text (P := Try.prog) Try.underlying32 Try.underlying5 Try.underlying9))
  go_ret
  exact ⟨rfl, hbc⟩
set_option maxHeartbeats 2000000 in
theorem back_010 (w : World) (ko : Option Addr) (mk kc : Nat) (P room : Int) (ao : Option Addr) (n cap : Nat) (bo : Option Addr) (mb bc : Nat) (c0 : ∀ w, Calls Try.prog 9 #[] w fun e w' => e = .returned (.bool true) ∧ Below w.heap.size w w') (h3 : ¬ 300 < (n : Int)) (h4 : ¬ 8192 < (mb : Int)) (X M l : List Blk) (Z zs : List Int) (E : Int) (hs : Sl .u8 w bo mb bc zs) (cF : ∀ w', Below w.heap.size w w' → Calls Try.prog 10 #[.slice ko mk kc] w' fun e w'' => ∃ lo ml lc, e = .returned (.tuple #[.slice lo ml lc, .bool false]) ∧ Bs w'' lo ml lc X ∧ Below w'.heap.size w' w'') (cW : ∀ w', Below w.heap.size w w' → Calls Try.prog 18 #[.int .i64 P, .int .i64 room, .slice ao n cap] w' fun e w'' => ∃ lo ml lc, e = .returned (.tuple #[.slice lo ml lc, .int .i64 0]) ∧ Own .u8 5 w'.heap.size w'' lo ml lc Z ∧ Below w'.heap.size w' w'') (cB : ∀ w', Below w.heap.size w w' → Calls Try.prog 22 #[.int .i64 P, .slice bo mb bc] w' fun e w'' => ∃ lo ml lc, e = .returned (.tuple #[.slice lo ml lc, .bool false]) ∧ Bs w'' lo ml lc M ∧ Below w'.heap.size w' w'') (cQ : ∀ lo ml lc w', Sl .u8 w' lo ml lc Z → Calls Try.prog 22 #[.int .i64 P, .slice lo ml lc] w' fun e w'' => ∃ lo ml lc, e = .returned (.tuple #[.slice lo ml lc, .bool true]) ∧ Bs w'' lo ml lc l ∧ Below w'.heap.size w' w'') (cS : ∀ lo ml lc w', Bs w' lo ml lc l → Below w.heap.size w w' → Calls Try.prog 12 #[.slice ao n cap, .slice lo ml lc] w' fun e w'' => e = .returned (.bool true) ∧ Below w'.heap.size w' w'') (K : Nat) (hK : Z.length = K) (hKw : IntKind.i64.wrap (128 * room) = (K : Int)) (hM0 : M = []) :
    Calls Try.prog 6 #[.slice ko mk kc, .int .i64 P, .int .i64 room, .slice ao n cap, .slice bo mb bc] w fun e w' => e = .returned (.bool true) ∧ Below w.heap.size w w' := by
  go_enter Try.func6, Try.ntmps6
  go_wp2_with (first
    | (go_at_call 9; with_reducible refine (c0 _).mono ?_; rintro e w1 ⟨rfl, hbc⟩)
    | (go_at_call 10; with_reducible refine (cF _ hbc).mono ?_; rintro e w1 ⟨lo, ml, lc, rfl, hX, hb1⟩; have hbc := next hbc hb1; clear hb1)
    | (go_at_call 18; with_reducible refine (cW _ hbc).mono ?_; rintro e w1 ⟨zo, mz, zc, rfl, hZ, hb1⟩; obtain rfl : mz = K := (by have := hZ.len; omega); have hbc := next hbc hb1; clear hb1)
    | (go_at_call 22; with_reducible refine (cQ _ _ _ _ hZ.sl).mono ?_; rintro e w1 ⟨qo, mq, qc, rfl, hQ, hb1⟩; have hbc := next hbc hb1; clear hb1)
    | (go_at_call 12; with_reducible refine (cS _ _ _ _ hQ hbc).mono ?_; rintro e w1 ⟨rfl, hb1⟩; have hbc := next hbc hb1; clear hb1)
    | (go_at_call 22; with_reducible refine (cB _ hbc).mono ?_; rintro e w1 ⟨mo, mm, mc, rfl, hM, hb1⟩; obtain rfl : 0 = mm := (by have := hM.len; rw [hM0, List.length_nil] at this; exact this); have hbc := next hbc hb1; clear hb1))
  go_ret
  exact ⟨rfl, hbc⟩
set_option maxHeartbeats 2000000 in
theorem back_001 (w : World) (ko : Option Addr) (mk kc : Nat) (P room : Int) (ao : Option Addr) (n cap : Nat) (bo : Option Addr) (mb bc : Nat) (c0 : ∀ w, Calls Try.prog 9 #[] w fun e w' => e = .returned (.bool true) ∧ Below w.heap.size w w') (h3 : ¬ 300 < (n : Int)) (h4 : ¬ 8192 < (mb : Int)) (X M l : List Blk) (Z zs : List Int) (E : Int) (hs : Sl .u8 w bo mb bc zs) (cF : ∀ w', Below w.heap.size w w' → Calls Try.prog 10 #[.slice ko mk kc] w' fun e w'' => ∃ lo ml lc, e = .returned (.tuple #[.slice lo ml lc, .bool false]) ∧ Bs w'' lo ml lc X ∧ Below w'.heap.size w' w'') (cW : ∀ w', Below w.heap.size w w' → Calls Try.prog 18 #[.int .i64 P, .int .i64 room, .slice ao n cap] w' fun e w'' => ∃ lo ml lc, e = .returned (.tuple #[.slice lo ml lc, .int .i64 E]) ∧ Own .u8 5 w'.heap.size w'' lo ml lc Z ∧ Below w'.heap.size w' w'') (cB : ∀ w', Below w.heap.size w w' → Calls Try.prog 22 #[.int .i64 P, .slice bo mb bc] w' fun e w'' => ∃ lo ml lc, e = .returned (.tuple #[.slice lo ml lc, .bool true]) ∧ Bs w'' lo ml lc M ∧ Below w'.heap.size w' w'') (hE : (E == 0) = false) (q : Int) (cV : ∀ lo ml lc w', Bs w' lo ml lc M → Calls Try.prog 18 #[.int .i64 P, .int .i64 q, .slice lo ml lc] w' fun e w'' => ∃ lo ml lc, e = .returned (.tuple #[.slice lo ml lc, .int .i64 0]) ∧ Own .u8 5 w'.heap.size w'' lo ml lc zs ∧ Below w'.heap.size w' w'') (hq : Int.tdiv (mb : Int) 128 = q) (hq' : (mb : Int) / 128 = q) (hqw : IntKind.i64.wrap q = q) :
    Calls Try.prog 6 #[.slice ko mk kc, .int .i64 P, .int .i64 room, .slice ao n cap, .slice bo mb bc] w fun e w' => e = .returned (.bool true) ∧ Below w.heap.size w w' := by
  go_enter Try.func6, Try.ntmps6
  go_wp2_with (first
    | (go_at_call 9; with_reducible refine (c0 _).mono ?_; rintro e w1 ⟨rfl, hbc⟩)
    | (go_at_call 10; with_reducible refine (cF _ hbc).mono ?_; rintro e w1 ⟨lo, ml, lc, rfl, hX, hb1⟩; have hbc := next hbc hb1; clear hb1)
    | (go_at_call 18; with_reducible refine (cW _ hbc).mono ?_; rintro e w1 ⟨zo, mz, zc, rfl, hZ, hb1⟩; have hbc := next hbc hb1; clear hb1)
    | (go_at_call 22; with_reducible refine (cB _ hbc).mono ?_; rintro e w1 ⟨mo, mm, mc, rfl, hM, hb1⟩; have hbc := next hbc hb1; clear hb1)
    | (go_at_call 18; with_reducible refine (cV _ _ _ _ hM).mono ?_; rintro e w1 ⟨vo, mv, vc, rfl, hV, hb1⟩; have hbc := next hbc hb1; clear hb1; have tx := hV.sl.text (P := Try.prog) Try.underlying32 Try.underlying5 Try.underlying9; have ty := (hs.below hbc).text (P := Try.prog) Try.underlying32 Try.underlying5 Try.underlying9))
  go_ret
  exact ⟨rfl, hbc⟩
set_option maxHeartbeats 2000000 in
theorem back_000 (w : World) (ko : Option Addr) (mk kc : Nat) (P room : Int) (ao : Option Addr) (n cap : Nat) (bo : Option Addr) (mb bc : Nat) (c0 : ∀ w, Calls Try.prog 9 #[] w fun e w' => e = .returned (.bool true) ∧ Below w.heap.size w w') (h3 : ¬ 300 < (n : Int)) (h4 : ¬ 8192 < (mb : Int)) (X M l : List Blk) (Z zs : List Int) (E : Int) (hs : Sl .u8 w bo mb bc zs) (cF : ∀ w', Below w.heap.size w w' → Calls Try.prog 10 #[.slice ko mk kc] w' fun e w'' => ∃ lo ml lc, e = .returned (.tuple #[.slice lo ml lc, .bool false]) ∧ Bs w'' lo ml lc X ∧ Below w'.heap.size w' w'') (cW : ∀ w', Below w.heap.size w w' → Calls Try.prog 18 #[.int .i64 P, .int .i64 room, .slice ao n cap] w' fun e w'' => ∃ lo ml lc, e = .returned (.tuple #[.slice lo ml lc, .int .i64 E]) ∧ Own .u8 5 w'.heap.size w'' lo ml lc Z ∧ Below w'.heap.size w' w'') (cB : ∀ w', Below w.heap.size w w' → Calls Try.prog 22 #[.int .i64 P, .slice bo mb bc] w' fun e w'' => ∃ lo ml lc, e = .returned (.tuple #[.slice lo ml lc, .bool false]) ∧ Bs w'' lo ml lc M ∧ Below w'.heap.size w' w'') (hE : (E == 0) = false) (hM0 : M = []) :
    Calls Try.prog 6 #[.slice ko mk kc, .int .i64 P, .int .i64 room, .slice ao n cap, .slice bo mb bc] w fun e w' => e = .returned (.bool true) ∧ Below w.heap.size w w' := by
  go_enter Try.func6, Try.ntmps6
  go_wp2_with (first
    | (go_at_call 9; with_reducible refine (c0 _).mono ?_; rintro e w1 ⟨rfl, hbc⟩)
    | (go_at_call 10; with_reducible refine (cF _ hbc).mono ?_; rintro e w1 ⟨lo, ml, lc, rfl, hX, hb1⟩; have hbc := next hbc hb1; clear hb1)
    | (go_at_call 18; with_reducible refine (cW _ hbc).mono ?_; rintro e w1 ⟨zo, mz, zc, rfl, hZ, hb1⟩; have hbc := next hbc hb1; clear hb1)
    | (go_at_call 22; with_reducible refine (cB _ hbc).mono ?_; rintro e w1 ⟨mo, mm, mc, rfl, hM, hb1⟩; obtain rfl : 0 = mm := (by have := hM.len; rw [hM0, List.length_nil] at this; exact this); have hbc := next hbc hb1; clear hb1))
  go_ret
  exact ⟨rfl, hbc⟩
theorem treeBack_walk (w : World) (ko : Option Addr) (mk kc : Nat) (ks : List Int) (hks : Sl .i64 w ko mk kc ks) (hkw : ∀ z ∈ ks, (Lit.int .i64 z).wf = true) (hkr : kc * 8 ≤ 140737488351232) (P : Int) (hP : (Lit.int .i64 P).wf = true) (room : Int) (hro : (Lit.int .i64 room).wf = true) (ao : Option Addr) (n cap : Nat) (l : List Blk) (h : Bs w ao n cap l) (hc : cap * 24 ≤ 140737488351232) (bo : Option Addr) (mb bc : Nat) (zs : List Int) (hs : Sl .u8 w bo mb bc zs) (hw : ∀ z ∈ zs, (Lit.int .u8 z).wf = true) (hr : bc * 1 ≤ 140737488351232) :
    Calls Try.prog 6 #[.slice ko mk kc, .int .i64 P, .int .i64 room, .slice ao n cap, .slice bo mb bc] w fun e w' => e = .returned (.bool true) ∧ Below w.heap.size w w' := by
  have c0 := smallX_any
  have hn : n ≤ 9223372036854775807 := by have := h.room; omega
  have hl := h.len
  have hby := bytes_wf hw
  have hlz := hs.len
  have hlk := hks.len
  have hkm : mk ≤ 9223372036854775807 := by have := hks.room; omega
  by_cases h3 : 300 < (n : Int)
  · exact back_far0 w ko mk kc P room ao n cap bo mb bc c0 h3
  by_cases h4 : 8192 < (mb : Int)
  · exact back_far1 w ko mk kc P room ao n cap bo mb bc c0 h3 h4
  have hm : mb ≤ 140737488355328 := by omega
  have cF := fun w' (hb : Below w.heap.size w w') => tfrom_sl ko mk kc ks w' (hks.below hb) hkm
  have cW := fun w' (hb : Below w.heap.size w w') => twrite_bs P room ao n cap l w' (h.below hb) hn
  have cB := fun w' (hb : Below w.heap.size w w') => tread_sl P bo mb bc zs w' (hs.below hb) hby hm
  have cR : FxOk ks → ∀ lo ml lc w', Bs w' lo ml lc (fxL ks) → Calls Try.prog 14 #[.int .i64 (mk : Int), .slice lo ml lc] w' fun e w'' => e = .returned (.bool true) ∧ Below w'.heap.size w' w'' := fun ok lo ml lc w' hB => by
    have h1 := fx_right ok
    rw [hlk] at h1
    have h2 := h1.n64
    have h5 := hB.len
    have := tright_bs (mk : Int) lo ml lc (fxL ks) w' hB (by omega)
    rwa [rxB_t h1] at this
  have cQ : RightX P l → RoomX room l → ∀ lo ml lc w', Sl .u8 w' lo ml lc (wtL P room l) → Calls Try.prog 22 #[.int .i64 P, .slice lo ml lc] w' fun e w'' => ∃ lo ml lc, e = .returned (.tuple #[.slice lo ml lc, .bool true]) ∧ Bs w'' lo ml lc l ∧ Below w'.heap.size w' w'' := fun h1 h2 lo ml lc w' hS => by
    have h5 := hS.len
    rw [wt_len h1 h2] at h5
    have h6 := h2.2
    have hb : Bytes (wtL P room l) := by rw [(wt_ok h1 h2).2]; exact ofL_bytes _
    have := tread_sl P lo ml lc _ w' hS hb (by omega)
    rw [(rd_wt h1 h2).2, (rx_t (rd_wt h1 h2).1).2] at this
    exact this
  have cS : l.length ≤ 64 → ∀ lo ml lc w', Bs w' lo ml lc l → Below w.heap.size w w' → Calls Try.prog 12 #[.slice ao n cap, .slice lo ml lc] w' fun e w'' => e = .returned (.bool true) ∧ Below w'.heap.size w' w'' := fun hL lo ml lc w' hB hb => same_xs ao n cap lo ml lc l w' (h.below hb) hB hL
  have cV : RdX P zs → ∀ lo ml lc w', Bs w' lo ml lc (rxL P zs) → Calls Try.prog 18 #[.int .i64 P, .int .i64 ((mb / 128 : Nat) : Int), .slice lo ml lc] w' fun e w'' => ∃ lo ml lc, e = .returned (.tuple #[.slice lo ml lc, .int .i64 0]) ∧ Own .u8 5 w'.heap.size w'' lo ml lc zs ∧ Below w'.heap.size w' w'' := fun ok lo ml lc w' hB => by
    have h5 := hB.len
    have h6 := (rx_len P zs).1
    have := twrite_bs P ((mb / 128 : Nat) : Int) lo ml lc _ w' hB (by omega)
    obtain ⟨_, e1, e2⟩ := ok
    rw [hlz] at e1 e2
    rw [(rx_t ⟨by assumption, by rw [hlz]; exact e1, by rw [hlz]; exact e2⟩).1, e1, e2] at this
    exact this
  have q1 : Int.tdiv (mb : Int) 128 = ((mb / 128 : Nat) : Int) := by rw [Int.tdiv_eq_ediv_of_nonneg (by omega)]; omega
  have q2 : (mb : Int) / 128 = ((mb / 128 : Nat) : Int) := by omega
  have q3 : IntKind.i64.wrap ((mb / 128 : Nat) : Int) = ((mb / 128 : Nat) : Int) := IntWalk.i64_in _ ⟨by omega, by omega⟩
  have hEw : ∀ {x : Int}, ¬ x = 0 → (x == 0) = false := fun h => by simpa using h
  by_cases hf : FxOk ks
  · rw [(fx_t hf).2] at cF
    by_cases he' : wtE P room l = 0
    · have he := wtE_0.1 he'
      have hKw : IntKind.i64.wrap (128 * room) = (((wtL P room l).length : Nat) : Int) := by
        have h6 := he.2.2
        have h7 := (he.2.nodes he.1).2.1
        rw [wt_len he.1 he.2, IntWalk.i64_in _ ⟨by omega, by omega⟩]; omega
      rw [he'] at cW
      by_cases hd : RdX P zs
      · rw [(rx_t hd).2] at cB
        exact back_111 w ko mk kc P room ao n cap bo mb bc c0 h3 h4 _ _ l _ _ 0 hs cF cW cB (cR hf) (cQ he.1 he.2) (cS he.1.n64) _ rfl hKw _ (cV hd) q1 q2 q3
      · rw [(rx_f hd).2] at cB
        exact back_110 w ko mk kc P room ao n cap bo mb bc c0 h3 h4 _ _ l _ _ 0 hs cF cW cB (cR hf) (cQ he.1 he.2) (cS he.1.n64) _ rfl hKw (rx_f hd).1
    · have he := he'
      by_cases hd : RdX P zs
      · rw [(rx_t hd).2] at cB
        exact back_101 w ko mk kc P room ao n cap bo mb bc c0 h3 h4 _ _ l _ _ _ hs cF cW cB (cR hf) (hEw he') _ (cV hd) q1 q2 q3
      · rw [(rx_f hd).2] at cB
        exact back_100 w ko mk kc P room ao n cap bo mb bc c0 h3 h4 _ _ l _ _ _ hs cF cW cB (cR hf) (hEw he') (rx_f hd).1
  · rw [(fx_f hf).2] at cF
    by_cases he' : wtE P room l = 0
    · have he := wtE_0.1 he'
      have hKw : IntKind.i64.wrap (128 * room) = (((wtL P room l).length : Nat) : Int) := by
        have h6 := he.2.2
        have h7 := (he.2.nodes he.1).2.1
        rw [wt_len he.1 he.2, IntWalk.i64_in _ ⟨by omega, by omega⟩]; omega
      rw [he'] at cW
      by_cases hd : RdX P zs
      · rw [(rx_t hd).2] at cB
        exact back_011 w ko mk kc P room ao n cap bo mb bc c0 h3 h4 _ _ l _ _ 0 hs cF cW cB (cQ he.1 he.2) (cS he.1.n64) _ rfl hKw _ (cV hd) q1 q2 q3
      · rw [(rx_f hd).2] at cB
        exact back_010 w ko mk kc P room ao n cap bo mb bc c0 h3 h4 _ _ l _ _ 0 hs cF cW cB (cQ he.1 he.2) (cS he.1.n64) _ rfl hKw (rx_f hd).1
    · have he := he'
      by_cases hd : RdX P zs
      · rw [(rx_t hd).2] at cB
        exact back_001 w ko mk kc P room ao n cap bo mb bc c0 h3 h4 _ _ l _ _ _ hs cF cW cB (hEw he') _ (cV hd) q1 q2 q3
      · rw [(rx_f hd).2] at cB
        exact back_000 w ko mk kc P room ao n cap bo mb bc c0 h3 h4 _ _ l _ _ _ hs cF cW cB (hEw he') (rx_f hd).1
end Go.Proofs.Ythkloknongkpdaa
