/- 'PmemAsks': the walk. -/
import Derived.Test.YtcelmnhdchfhiaaSmall
namespace Go.Proofs.Ytcelmnhdchfhiaa
open Go.RowKit Go.Maps

theorem checkE_down {S : St} (h : S.down = true) (a n : Int) : checkE S a n = 5 := by unfold checkE; rw [if_pos h]
theorem step_stays {S : St} {a n : Int} (h : checkE S a n ≠ 0) : stepE S a n = checkE S a n ∧ stepS S a n = S := by
  unfold stepE stepS
  rw [if_pos h, if_pos (Or.inl h)]
  exact ⟨rfl, rfl⟩
theorem step_fails {S : St} {a n : Int} (h : checkE S a n = 0) (ha : S.armed = 1) : stepE S a n = 5 ∧ (stepS S a n).down = true ∧ (stepS S a n).seen = S.seen := by
  have h1 : stepE S a n = 5 := by unfold stepE; rw [if_neg (by omega), if_pos ha]
  have h2 : stepS S a n = { S with armed := S.armed - 1, down := decide (S.armed = 1) } := by unfold stepS; rw [if_neg (by omega)]
  rw [h1, h2]
  exact ⟨rfl, by simp [ha], rfl⟩
theorem store_down {w : World} {F : Nat → Prop} {p : Nat} {S : St} (hd : Dev w F p S) (h : S.down = true) (ao : Option Addr) (n cap : Nat) (hn : n ≤ 9223372036854775807) :
    Calls Try.prog 16 #[.pointer (some ⟨p, 0, none⟩), .int .i64 0, .slice ao n cap] w fun e w' => e = .returned (.int .i64 5) ∧ Dev w' F p S ∧ Goes F w F w' := by
  have hc := checkE_down h 0 n
  obtain ⟨h1, h2⟩ := step_stays (S := S) (a := 0) (n := n) (by rw [hc]; omega)
  have hs := store_bad hd 0 ao n cap (by omega) hn (by rw [h1, hc]; omega)
  rw [h1, h2, hc] at hs
  exact hs
theorem flush_down {w : World} {F : Nat → Prop} {p : Nat} {S : St} (hd : Dev w F p S) (a n e : Int) (ha : -9223372036854775808 ≤ a ∧ a ≤ 9223372036854775807) (hn : -9223372036854775808 ≤ n ∧ n ≤ 9223372036854775807) (hE : stepE S a n = e) (h0 : e ≠ 0) :
    Calls Try.prog 18 #[.pointer (some ⟨p, 0, none⟩), .int .i64 a, .int .i64 n] w fun r w' => r = .returned (.int .i64 e) ∧ Dev w' F p (stepS S a n) ∧ Goes F w F w' := by
  subst hE
  exact flush_bad hd a n ha hn h0
theorem fence_down {w : World} {F : Nat → Prop} {p : Nat} {S : St} (hd : Dev w F p S) (e : Int) (hE : stepE S 0 0 = e) (h0 : e ≠ 0) :
    Calls Try.prog 20 #[.pointer (some ⟨p, 0, none⟩)] w fun r w' => r = .returned (.int .i64 e) ∧ Dev w' F p (stepS S 0 0) ∧ Goes F w F w' := by
  subst hE
  exact fence_bad hd h0
def askT (z : List Int) : St := { St.new z with armed := max 1 0 }
theorem askT_fits {z : List Int} {a n : Int} (h : 0 ≤ a ∧ a ≤ z.length ∧ 0 ≤ n ∧ n ≤ z.length - a) : checkE (askT z) a n = 0 := by
  unfold checkE
  rw [if_neg (by simp [askT, St.new]), if_neg (by show ¬ (a < 0 ∨ n < 0 ∨ n > z.length - a); omega)]
theorem askT_bad {z : List Int} {a n : Int} (h : ¬ (0 ≤ a ∧ a ≤ z.length ∧ 0 ≤ n ∧ n ≤ z.length - a)) : checkE (askT z) a n = 1 := by
  unfold checkE
  rw [if_neg (by simp [askT, St.new]), if_pos (by show a < 0 ∨ n < 0 ∨ n > z.length - a; omega)]

theorem asks_great (w : World) (a0 : Option Addr) (len0 cap0 : Nat) (a1 a2 : Int) (a3 : Option Addr) (len3 cap3 : Nat) (h : 2048 < len0 ∨ 2048 < len3) (r0 : len0 ≤ 9223372036854775807) (r3 : len3 ≤ 9223372036854775807) :
    Calls Try.prog 6 #[.slice a0 len0 cap0, .int .i64 a1, .int .i64 a2, .slice a3 len3 cap3] w fun e w' => e = .returned (.bool true) ∧ Below w.heap.size w w' := by
  by_cases h0 : 2048 < len0
  · have h1 : (2048 : Int) < len0 := by omega
    go_enter Try.func6, Try.ntmps6
    go_wp2_with (go_at_call 8; with_reducible refine (small_any _).mono ?_; rintro e w1 ⟨rfl, hb1⟩)
    go_ret
    exact ⟨rfl, hb1⟩
  · have h1 : ¬ ((2048 : Int) < len0) := by omega
    have h2 : (2048 : Int) < len3 := by omega
    go_enter Try.func6, Try.ntmps6
    go_wp2_with (go_at_call 8; with_reducible refine (small_any _).mono ?_; rintro e w1 ⟨rfl, hb1⟩)
    go_ret
    exact ⟨rfl, hb1⟩
theorem asks_none (w : World) (a0 : Option Addr) (len0 cap0 : Nat) (hl2 : len0 ≤ 2048) (hnew : newOk len0 = false) (a1 a2 : Int) (a3 : Option Addr) (len3 cap3 : Nat) (hl3 : len3 ≤ 2048) :
    Calls Try.prog 6 #[.slice a0 len0 cap0, .int .i64 a1, .int .i64 a2, .slice a3 len3 cap3] w fun e w' => e = .returned (.bool true) ∧ Below w.heap.size w w' := by
  have hn1 : ¬ ((2048 : Int) < len0) := by omega
  have hn3 : ¬ ((2048 : Int) < len3) := by omega
  have hl9 : len0 ≤ 9223372036854775807 := by omega
  go_enter Try.func6, Try.ntmps6
  go_wp2_with (first
    | (go_at_call 8; with_reducible refine (small_any _).mono ?_; rintro e w1 ⟨rfl, hb1⟩)
    | (go_at_call 10; with_reducible refine (new_bad _ _ _ _ hl9 hnew).mono ?_; rintro e w2 ⟨rfl, rfl⟩))
  go_ret
  exact ⟨rfl, hb1⟩

set_option maxRecDepth 100000 in
theorem asks_fit (w : World) (a0 : Option Addr) (len0 cap0 : Nat) (z0 : List Int) (s0 : Sl .u8 w a0 len0 cap0 z0) (hby : Bytes z0) (hl2 : len0 ≤ 2048) (hnew : newOk len0 = true)
    (a1 : Int) (f1 : -9223372036854775808 ≤ a1 ∧ a1 ≤ 9223372036854775807) (a2 : Int) (f2 : -9223372036854775808 ≤ a2 ∧ a2 ≤ 9223372036854775807) (a3 : Option Addr) (len3 cap3 : Nat) (hl3 : len3 ≤ 2048) (hfit : 0 ≤ a1 ∧ a1 ≤ len0 ∧ 0 ≤ a2 ∧ a2 ≤ len0 - a1) :
    Calls Try.prog 6 #[.slice a0 len0 cap0, .int .i64 a1, .int .i64 a2, .slice a3 len3 cap3] w fun e w' => e = .returned (.bool true) ∧ Below w.heap.size w w' := by
  have hv2 : (-9223372036854775808 : Int) ≤ 1 ∧ (1 : Int) ≤ 9223372036854775807 := by omega
  have hlen := s0.len
  have hn1 : ¬ ((2048 : Int) < len0) := by omega
  have hn3 : ¬ ((2048 : Int) < len3) := by omega
  obtain ⟨i, rfl⟩ : ∃ i : Nat, a1 = i := ⟨a1.toNat, by omega⟩
  obtain ⟨m, rfl⟩ : ∃ m : Nat, a2 = m := ⟨a2.toNat, by omega⟩
  have hE : checkE (askT z0) i m = 0 := askT_fits (by rw [hlen]; exact hfit)
  obtain ⟨e1, e2, e3⟩ := step_fails hE (show (askT z0).armed = 1 from rfl)
  have hc1 : (0 : Int) ≤ i := by omega
  have hc2 : (i : Int) ≤ len0 := by omega
  have hc3 : (0 : Int) ≤ m := by omega
  have hc4 : (m : Int) ≤ len0 - i := by omega
  have h50 : (5 : Int) ≠ 0 := by omega
  have hl39 : len3 ≤ 9223372036854775807 := by omega
  have tokA : True := trivial
  clear hfit hlen
  go_enter Try.func6, Try.ntmps6
  go_wp2_with (first
    | (go_at_call 8; with_reducible refine (small_any _).mono ?_; rintro e w1 ⟨rfl, hb1⟩; have s01 := s0.below hb1)
    | (go_at_call 10; with_reducible refine (new_good _ _ _ _ _ s01 hby hnew).mono ?_; rintro e w2 ⟨p, F, rfl, hd0, hF, hb2⟩; clear s01)
    | (go_at_call 22; with_reducible refine (arm_any hd0 1 hv2).mono ?_; rintro e w3 ⟨rfl, hd1, g3, s33⟩; clear s33 hd0; replace hd1 : Dev _ _ _ (askT z0) := hd1)
    | (go_at_call 29; with_reducible refine (view_any hd1).mono ?_; rintro e w4 ⟨gb, gc, rfl, ho4, hb4⟩; have hd2 := hd1.below hb4; clear hd1; have htx := ho4.sl.text Try.underlying22 Try.underlying5 Try.underlying9)
    | (go_at_call 14; with_reducible refine (load_good hd2 i m hE).mono ?_; rintro e w5 ⟨ao5, c5, rfl, ho5, hb5⟩; have hd3 := hd2.below hb5; clear hd2 ho5; have hdn3 := down_any hd3)
    | (go_at_call 30; have _t := tokA; with_reducible refine hdn3.mono ?_; rintro e w6 ⟨rfl, rfl⟩; clear tokA)
    | (go_at_call 18; with_reducible refine (flush_down hd3 i m 5 f1 f2 e1 h50).mono ?_; rintro e w6 ⟨rfl, hd4, g6⟩; clear hd3; have hdn4 := down_any hd4; rw [e2] at hdn4)
    | (go_at_call 30; with_reducible refine hdn4.mono ?_; rintro e w7 ⟨rfl, rfl⟩)
    | (go_at_call 16; with_reducible refine (store_down hd4 e2 a3 len3 cap3 hl39).mono ?_; rintro e w8 ⟨rfl, hd5, g8⟩; clear hd4; have hvw := view_any hd5; rw [e3] at hvw)
    | (go_at_call 29; with_reducible refine hvw.mono ?_; rintro e w9 ⟨gb9, gc9, rfl, ho9, hb9⟩; have htx9 := ho9.sl.text Try.underlying22 Try.underlying5 Try.underlying9))
  go_ret
  have hall : Goes F w2 F w9 := g3.trans ((Goes.of_below hb4).trans ((Goes.of_below hb5).trans (g6.trans (g8.trans (Goes.of_below hb9)))))
  exact ⟨rfl, hb1.trans ((hb2.trans (hall.off.below hF hb2.size)).mono hb1.size)⟩

set_option maxRecDepth 100000 in
theorem asks_lt (w : World) (a0 : Option Addr) (len0 cap0 : Nat) (z0 : List Int) (s0 : Sl .u8 w a0 len0 cap0 z0) (hby : Bytes z0) (hl2 : len0 ≤ 2048) (hnew : newOk len0 = true)
    (a1 : Int) (f1 : -9223372036854775808 ≤ a1 ∧ a1 ≤ 9223372036854775807) (a2 : Int) (f2 : -9223372036854775808 ≤ a2 ∧ a2 ≤ 9223372036854775807) (a3 : Option Addr) (len3 cap3 : Nat) (hl3 : len3 ≤ 2048) (hx : a1 < 0) :
    Calls Try.prog 6 #[.slice a0 len0 cap0, .int .i64 a1, .int .i64 a2, .slice a3 len3 cap3] w fun e w' => e = .returned (.bool true) ∧ Below w.heap.size w w' := by
  have hv2 : (-9223372036854775808 : Int) ≤ 1 ∧ (1 : Int) ≤ 9223372036854775807 := by omega
  have hlen := s0.len
  have hn1 : ¬ ((2048 : Int) < len0) := by omega
  have hn3 : ¬ ((2048 : Int) < len3) := by omega
  have hE : checkE (askT z0) a1 a2 = 1 := askT_bad (by rw [hlen]; omega)
  obtain ⟨e1, e2⟩ := step_stays (S := askT z0) (a := a1) (n := a2) (by rw [hE]; omega)
  have hE0 : checkE (askT z0) 0 0 = 0 := askT_fits (by omega)
  obtain ⟨k1, k2, k3⟩ := step_fails hE0 (show (askT z0).armed = 1 from rfl)
  rw [hE] at e1
  have hE1 : checkE (askT z0) a1 a2 ≠ 0 := by rw [hE]; omega
  have hc1 : ¬ ((0 : Int) ≤ a1) := by omega
  clear hx hlen
  have h10 : (1 : Int) ≠ 0 := by omega
  have h50 : (5 : Int) ≠ 0 := by omega
  have tokA : True := trivial
  have tokB : True := trivial
  go_enter Try.func6, Try.ntmps6
  go_wp2_with (first
    | (go_at_call 8; with_reducible refine (small_any _).mono ?_; rintro e w1 ⟨rfl, hb1⟩; have s01 := s0.below hb1)
    | (go_at_call 10; with_reducible refine (new_good _ _ _ _ _ s01 hby hnew).mono ?_; rintro e w2 ⟨p, F, rfl, hd0, hF, hb2⟩; clear s01)
    | (go_at_call 22; with_reducible refine (arm_any hd0 1 hv2).mono ?_; rintro e w3 ⟨rfl, hd1, g3, s33⟩; clear s33 hd0; replace hd1 : Dev _ _ _ (askT z0) := hd1)
    | (go_at_call 29; with_reducible refine (view_any hd1).mono ?_; rintro e w4 ⟨gb, gc, rfl, ho4, hb4⟩; have hd2 := hd1.below hb4; clear hd1; have htx := ho4.sl.text Try.underlying22 Try.underlying5 Try.underlying9)
    | (go_at_call 14; have hlo := load_bad hd2 a1 a2 f1 f2 hE1; rw [hE] at hlo; with_reducible refine hlo.mono ?_; rintro e w5 ⟨rfl, rfl⟩; have hdn3 := down_any hd2)
    | (go_at_call 30; have _t := tokA; with_reducible refine hdn3.mono ?_; rintro e w6 ⟨rfl, rfl⟩; clear tokA)
    | (go_at_call 18; have hfl := flush_down hd2 a1 a2 1 f1 f2 e1 h10; rw [e2] at hfl; with_reducible refine hfl.mono ?_; rintro e w6 ⟨rfl, hd4, g6⟩; clear hd2; have hdn4 := down_any hd4; have hvw := view_any hd4)
    | (go_at_call 30; have _t := tokB; with_reducible refine hdn4.mono ?_; rintro e w7 ⟨rfl, rfl⟩; clear tokB)
    | (go_at_call 29; with_reducible refine hvw.mono ?_; rintro e w8 ⟨gb9, gc9, rfl, ho9, hb9⟩; have htx9 := ho9.sl.text Try.underlying22 Try.underlying5 Try.underlying9; have hd5 := hd4.below hb9)
    | (go_at_call 20; with_reducible refine (fence_down hd5 5 k1 h50).mono ?_; rintro e w9 ⟨rfl, hd6, g9⟩; clear hd5; have hdn5 := down_any hd6; rw [k2] at hdn5)
    | (go_at_call 30; with_reducible refine hdn5.mono ?_; rintro e w10 ⟨rfl, rfl⟩))
  go_ret
  have hall : Goes F w2 F w9 := g3.trans ((Goes.of_below hb4).trans (g6.trans ((Goes.of_below hb9).trans g9)))
  exact ⟨rfl, hb1.trans ((hb2.trans (hall.off.below hF hb2.size)).mono hb1.size)⟩

set_option maxRecDepth 100000 in
theorem asks_gt (w : World) (a0 : Option Addr) (len0 cap0 : Nat) (z0 : List Int) (s0 : Sl .u8 w a0 len0 cap0 z0) (hby : Bytes z0) (hl2 : len0 ≤ 2048) (hnew : newOk len0 = true)
    (a1 : Int) (f1 : -9223372036854775808 ≤ a1 ∧ a1 ≤ 9223372036854775807) (a2 : Int) (f2 : -9223372036854775808 ≤ a2 ∧ a2 ≤ 9223372036854775807) (a3 : Option Addr) (len3 cap3 : Nat) (hl3 : len3 ≤ 2048) (hx : 0 ≤ a1 ∧ len0 < a1) :
    Calls Try.prog 6 #[.slice a0 len0 cap0, .int .i64 a1, .int .i64 a2, .slice a3 len3 cap3] w fun e w' => e = .returned (.bool true) ∧ Below w.heap.size w w' := by
  have hv2 : (-9223372036854775808 : Int) ≤ 1 ∧ (1 : Int) ≤ 9223372036854775807 := by omega
  have hlen := s0.len
  have hn1 : ¬ ((2048 : Int) < len0) := by omega
  have hn3 : ¬ ((2048 : Int) < len3) := by omega
  have hE : checkE (askT z0) a1 a2 = 1 := askT_bad (by rw [hlen]; omega)
  obtain ⟨e1, e2⟩ := step_stays (S := askT z0) (a := a1) (n := a2) (by rw [hE]; omega)
  have hE0 : checkE (askT z0) 0 0 = 0 := askT_fits (by omega)
  obtain ⟨k1, k2, k3⟩ := step_fails hE0 (show (askT z0).armed = 1 from rfl)
  rw [hE] at e1
  have hE1 : checkE (askT z0) a1 a2 ≠ 0 := by rw [hE]; omega
  have hc1 : (0 : Int) ≤ a1 := by omega
  have hc2 : ¬ (a1 ≤ (len0 : Int)) := by omega
  clear hx hlen
  have h10 : (1 : Int) ≠ 0 := by omega
  have h50 : (5 : Int) ≠ 0 := by omega
  have tokA : True := trivial
  have tokB : True := trivial
  go_enter Try.func6, Try.ntmps6
  go_wp2_with (first
    | (go_at_call 8; with_reducible refine (small_any _).mono ?_; rintro e w1 ⟨rfl, hb1⟩; have s01 := s0.below hb1)
    | (go_at_call 10; with_reducible refine (new_good _ _ _ _ _ s01 hby hnew).mono ?_; rintro e w2 ⟨p, F, rfl, hd0, hF, hb2⟩; clear s01)
    | (go_at_call 22; with_reducible refine (arm_any hd0 1 hv2).mono ?_; rintro e w3 ⟨rfl, hd1, g3, s33⟩; clear s33 hd0; replace hd1 : Dev _ _ _ (askT z0) := hd1)
    | (go_at_call 29; with_reducible refine (view_any hd1).mono ?_; rintro e w4 ⟨gb, gc, rfl, ho4, hb4⟩; have hd2 := hd1.below hb4; clear hd1; have htx := ho4.sl.text Try.underlying22 Try.underlying5 Try.underlying9)
    | (go_at_call 14; have hlo := load_bad hd2 a1 a2 f1 f2 hE1; rw [hE] at hlo; with_reducible refine hlo.mono ?_; rintro e w5 ⟨rfl, rfl⟩; have hdn3 := down_any hd2)
    | (go_at_call 30; have _t := tokA; with_reducible refine hdn3.mono ?_; rintro e w6 ⟨rfl, rfl⟩; clear tokA)
    | (go_at_call 18; have hfl := flush_down hd2 a1 a2 1 f1 f2 e1 h10; rw [e2] at hfl; with_reducible refine hfl.mono ?_; rintro e w6 ⟨rfl, hd4, g6⟩; clear hd2; have hdn4 := down_any hd4; have hvw := view_any hd4)
    | (go_at_call 30; have _t := tokB; with_reducible refine hdn4.mono ?_; rintro e w7 ⟨rfl, rfl⟩; clear tokB)
    | (go_at_call 29; with_reducible refine hvw.mono ?_; rintro e w8 ⟨gb9, gc9, rfl, ho9, hb9⟩; have htx9 := ho9.sl.text Try.underlying22 Try.underlying5 Try.underlying9; have hd5 := hd4.below hb9)
    | (go_at_call 20; with_reducible refine (fence_down hd5 5 k1 h50).mono ?_; rintro e w9 ⟨rfl, hd6, g9⟩; clear hd5; have hdn5 := down_any hd6; rw [k2] at hdn5)
    | (go_at_call 30; with_reducible refine hdn5.mono ?_; rintro e w10 ⟨rfl, rfl⟩))
  go_ret
  have hall : Goes F w2 F w9 := g3.trans ((Goes.of_below hb4).trans (g6.trans ((Goes.of_below hb9).trans g9)))
  exact ⟨rfl, hb1.trans ((hb2.trans (hall.off.below hF hb2.size)).mono hb1.size)⟩

set_option maxRecDepth 100000 in
theorem asks_ng (w : World) (a0 : Option Addr) (len0 cap0 : Nat) (z0 : List Int) (s0 : Sl .u8 w a0 len0 cap0 z0) (hby : Bytes z0) (hl2 : len0 ≤ 2048) (hnew : newOk len0 = true)
    (a1 : Int) (f1 : -9223372036854775808 ≤ a1 ∧ a1 ≤ 9223372036854775807) (a2 : Int) (f2 : -9223372036854775808 ≤ a2 ∧ a2 ≤ 9223372036854775807) (a3 : Option Addr) (len3 cap3 : Nat) (hl3 : len3 ≤ 2048) (hx : 0 ≤ a1 ∧ a1 ≤ len0 ∧ a2 < 0) :
    Calls Try.prog 6 #[.slice a0 len0 cap0, .int .i64 a1, .int .i64 a2, .slice a3 len3 cap3] w fun e w' => e = .returned (.bool true) ∧ Below w.heap.size w w' := by
  have hv2 : (-9223372036854775808 : Int) ≤ 1 ∧ (1 : Int) ≤ 9223372036854775807 := by omega
  have hlen := s0.len
  have hn1 : ¬ ((2048 : Int) < len0) := by omega
  have hn3 : ¬ ((2048 : Int) < len3) := by omega
  have hE : checkE (askT z0) a1 a2 = 1 := askT_bad (by rw [hlen]; omega)
  obtain ⟨e1, e2⟩ := step_stays (S := askT z0) (a := a1) (n := a2) (by rw [hE]; omega)
  have hE0 : checkE (askT z0) 0 0 = 0 := askT_fits (by omega)
  obtain ⟨k1, k2, k3⟩ := step_fails hE0 (show (askT z0).armed = 1 from rfl)
  rw [hE] at e1
  have hE1 : checkE (askT z0) a1 a2 ≠ 0 := by rw [hE]; omega
  have hc1 : (0 : Int) ≤ a1 := by omega
  have hc2 : a1 ≤ (len0 : Int) := by omega
  have hc3 : ¬ ((0 : Int) ≤ a2) := by omega
  clear hx hlen
  have h10 : (1 : Int) ≠ 0 := by omega
  have h50 : (5 : Int) ≠ 0 := by omega
  have tokA : True := trivial
  have tokB : True := trivial
  go_enter Try.func6, Try.ntmps6
  go_wp2_with (first
    | (go_at_call 8; with_reducible refine (small_any _).mono ?_; rintro e w1 ⟨rfl, hb1⟩; have s01 := s0.below hb1)
    | (go_at_call 10; with_reducible refine (new_good _ _ _ _ _ s01 hby hnew).mono ?_; rintro e w2 ⟨p, F, rfl, hd0, hF, hb2⟩; clear s01)
    | (go_at_call 22; with_reducible refine (arm_any hd0 1 hv2).mono ?_; rintro e w3 ⟨rfl, hd1, g3, s33⟩; clear s33 hd0; replace hd1 : Dev _ _ _ (askT z0) := hd1)
    | (go_at_call 29; with_reducible refine (view_any hd1).mono ?_; rintro e w4 ⟨gb, gc, rfl, ho4, hb4⟩; have hd2 := hd1.below hb4; clear hd1; have htx := ho4.sl.text Try.underlying22 Try.underlying5 Try.underlying9)
    | (go_at_call 14; have hlo := load_bad hd2 a1 a2 f1 f2 hE1; rw [hE] at hlo; with_reducible refine hlo.mono ?_; rintro e w5 ⟨rfl, rfl⟩; have hdn3 := down_any hd2)
    | (go_at_call 30; have _t := tokA; with_reducible refine hdn3.mono ?_; rintro e w6 ⟨rfl, rfl⟩; clear tokA)
    | (go_at_call 18; have hfl := flush_down hd2 a1 a2 1 f1 f2 e1 h10; rw [e2] at hfl; with_reducible refine hfl.mono ?_; rintro e w6 ⟨rfl, hd4, g6⟩; clear hd2; have hdn4 := down_any hd4; have hvw := view_any hd4)
    | (go_at_call 30; have _t := tokB; with_reducible refine hdn4.mono ?_; rintro e w7 ⟨rfl, rfl⟩; clear tokB)
    | (go_at_call 29; with_reducible refine hvw.mono ?_; rintro e w8 ⟨gb9, gc9, rfl, ho9, hb9⟩; have htx9 := ho9.sl.text Try.underlying22 Try.underlying5 Try.underlying9; have hd5 := hd4.below hb9)
    | (go_at_call 20; with_reducible refine (fence_down hd5 5 k1 h50).mono ?_; rintro e w9 ⟨rfl, hd6, g9⟩; clear hd5; have hdn5 := down_any hd6; rw [k2] at hdn5)
    | (go_at_call 30; with_reducible refine hdn5.mono ?_; rintro e w10 ⟨rfl, rfl⟩))
  go_ret
  have hall : Goes F w2 F w9 := g3.trans ((Goes.of_below hb4).trans (g6.trans ((Goes.of_below hb9).trans g9)))
  exact ⟨rfl, hb1.trans ((hb2.trans (hall.off.below hF hb2.size)).mono hb1.size)⟩

set_option maxRecDepth 100000 in
theorem asks_ov (w : World) (a0 : Option Addr) (len0 cap0 : Nat) (z0 : List Int) (s0 : Sl .u8 w a0 len0 cap0 z0) (hby : Bytes z0) (hl2 : len0 ≤ 2048) (hnew : newOk len0 = true)
    (a1 : Int) (f1 : -9223372036854775808 ≤ a1 ∧ a1 ≤ 9223372036854775807) (a2 : Int) (f2 : -9223372036854775808 ≤ a2 ∧ a2 ≤ 9223372036854775807) (a3 : Option Addr) (len3 cap3 : Nat) (hl3 : len3 ≤ 2048) (hx : 0 ≤ a1 ∧ a1 ≤ len0 ∧ 0 ≤ a2 ∧ len0 - a1 < a2) :
    Calls Try.prog 6 #[.slice a0 len0 cap0, .int .i64 a1, .int .i64 a2, .slice a3 len3 cap3] w fun e w' => e = .returned (.bool true) ∧ Below w.heap.size w w' := by
  have hv2 : (-9223372036854775808 : Int) ≤ 1 ∧ (1 : Int) ≤ 9223372036854775807 := by omega
  have hlen := s0.len
  have hn1 : ¬ ((2048 : Int) < len0) := by omega
  have hn3 : ¬ ((2048 : Int) < len3) := by omega
  have hE : checkE (askT z0) a1 a2 = 1 := askT_bad (by rw [hlen]; omega)
  obtain ⟨e1, e2⟩ := step_stays (S := askT z0) (a := a1) (n := a2) (by rw [hE]; omega)
  have hE0 : checkE (askT z0) 0 0 = 0 := askT_fits (by omega)
  obtain ⟨k1, k2, k3⟩ := step_fails hE0 (show (askT z0).armed = 1 from rfl)
  rw [hE] at e1
  have hE1 : checkE (askT z0) a1 a2 ≠ 0 := by rw [hE]; omega
  have hc1 : (0 : Int) ≤ a1 := by omega
  have hc2 : a1 ≤ (len0 : Int) := by omega
  have hc3 : (0 : Int) ≤ a2 := by omega
  have hc4 : (len0 : Int) - a1 < a2 := by omega
  have hc5 : decide (a2 ≤ (len0 : Int) - a1) = false := by rw [decide_eq_false_iff_not]; omega
  clear hx hlen
  have h10 : (1 : Int) ≠ 0 := by omega
  have h50 : (5 : Int) ≠ 0 := by omega
  have tokA : True := trivial
  have tokB : True := trivial
  go_enter Try.func6, Try.ntmps6
  go_wp2_with (first
    | (go_at_call 8; with_reducible refine (small_any _).mono ?_; rintro e w1 ⟨rfl, hb1⟩; have s01 := s0.below hb1)
    | (go_at_call 10; with_reducible refine (new_good _ _ _ _ _ s01 hby hnew).mono ?_; rintro e w2 ⟨p, F, rfl, hd0, hF, hb2⟩; clear s01)
    | (go_at_call 22; with_reducible refine (arm_any hd0 1 hv2).mono ?_; rintro e w3 ⟨rfl, hd1, g3, s33⟩; clear s33 hd0; replace hd1 : Dev _ _ _ (askT z0) := hd1)
    | (go_at_call 29; with_reducible refine (view_any hd1).mono ?_; rintro e w4 ⟨gb, gc, rfl, ho4, hb4⟩; have hd2 := hd1.below hb4; clear hd1; have htx := ho4.sl.text Try.underlying22 Try.underlying5 Try.underlying9)
    | (go_at_call 14; have hlo := load_bad hd2 a1 a2 f1 f2 hE1; rw [hE] at hlo; with_reducible refine hlo.mono ?_; rintro e w5 ⟨rfl, rfl⟩; have hdn3 := down_any hd2)
    | (go_at_call 30; have _t := tokA; with_reducible refine hdn3.mono ?_; rintro e w6 ⟨rfl, rfl⟩; clear tokA)
    | (go_at_call 18; have hfl := flush_down hd2 a1 a2 1 f1 f2 e1 h10; rw [e2] at hfl; with_reducible refine hfl.mono ?_; rintro e w6 ⟨rfl, hd4, g6⟩; clear hd2; have hdn4 := down_any hd4; have hvw := view_any hd4)
    | (go_at_call 30; have _t := tokB; with_reducible refine hdn4.mono ?_; rintro e w7 ⟨rfl, rfl⟩; clear tokB)
    | (go_at_call 29; with_reducible refine hvw.mono ?_; rintro e w8 ⟨gb9, gc9, rfl, ho9, hb9⟩; have htx9 := ho9.sl.text Try.underlying22 Try.underlying5 Try.underlying9; have hd5 := hd4.below hb9)
    | (go_at_call 20; with_reducible refine (fence_down hd5 5 k1 h50).mono ?_; rintro e w9 ⟨rfl, hd6, g9⟩; clear hd5; have hdn5 := down_any hd6; rw [k2] at hdn5)
    | (go_at_call 30; with_reducible refine hdn5.mono ?_; rintro e w10 ⟨rfl, rfl⟩))
  go_ret
  have hall : Goes F w2 F w9 := g3.trans ((Goes.of_below hb4).trans (g6.trans ((Goes.of_below hb9).trans g9)))
  exact ⟨rfl, hb1.trans ((hb2.trans (hall.off.below hF hb2.size)).mono hb1.size)⟩

theorem pmemAsks_walk (w : World) (a0 : Option Addr) (len0 cap0 : Nat) (z0 : List Int) (s0 : Sl .u8 w a0 len0 cap0 z0) (f0 : ∀ n ∈ z0, (Lit.int .u8 n).wf = true) (c0 : cap0 * 1 ≤ 140737488351232)
    (a1 : Int) (f1 : (Lit.int .i64 a1).wf = true) (a2 : Int) (f2 : (Lit.int .i64 a2).wf = true)
    (a3 : Option Addr) (len3 cap3 : Nat) (z3 : List Int) (s3 : Sl .u8 w a3 len3 cap3 z3) (_f3 : ∀ n ∈ z3, (Lit.int .u8 n).wf = true) (c3 : cap3 * 1 ≤ 140737488351232) :
    Calls Try.prog 6 #[.slice a0 len0 cap0, .int .i64 a1, .int .i64 a2, .slice a3 len3 cap3] w fun e w' => e = .returned (.bool true) ∧ Below w.heap.size w w' := by
  by_cases hg : 2048 < len0 ∨ 2048 < len3
  · exact asks_great w a0 len0 cap0 a1 a2 a3 len3 cap3 hg (by have := s0.room; omega) (by have := s3.room; omega)
  · by_cases hnew : newOk len0 = true
    · have hby := bytes_wf f0
      have g1 := bounds_i64 f1
      have g2 := bounds_i64 f2
      by_cases h1 : a1 < 0
      · exact asks_lt w a0 len0 cap0 z0 s0 hby (by omega) hnew a1 g1 a2 g2 a3 len3 cap3 (by omega) h1
      · by_cases h2 : (len0 : Int) < a1
        · exact asks_gt w a0 len0 cap0 z0 s0 hby (by omega) hnew a1 g1 a2 g2 a3 len3 cap3 (by omega) ⟨by omega, h2⟩
        · by_cases h3 : a2 < 0
          · exact asks_ng w a0 len0 cap0 z0 s0 hby (by omega) hnew a1 g1 a2 g2 a3 len3 cap3 (by omega) ⟨by omega, by omega, h3⟩
          · by_cases h4 : (len0 : Int) - a1 < a2
            · exact asks_ov w a0 len0 cap0 z0 s0 hby (by omega) hnew a1 g1 a2 g2 a3 len3 cap3 (by omega) ⟨by omega, by omega, by omega, h4⟩
            · exact asks_fit w a0 len0 cap0 z0 s0 hby (by omega) hnew a1 g1 a2 g2 a3 len3 cap3 (by omega) ⟨by omega, by omega, by omega, by omega⟩
    · exact asks_none w a0 len0 cap0 (by omega) (by simpa using hnew) a1 a2 a3 len3 cap3 (by omega)
end Go.Proofs.Ytcelmnhdchfhiaa
