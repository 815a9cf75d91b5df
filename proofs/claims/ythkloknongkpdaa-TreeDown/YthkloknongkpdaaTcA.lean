/- tree.wide, useful, Nodes, Right by their contracts. -/
import Derived.Test.YthkloknongkpdaaRefTreA
import Derived.Test.YthkloknongkpdaaMtC
namespace Go.Proofs.Ythkloknongkpdaa
set_option maxRecDepth 100000
open Go.RowKit
set_option linter.unusedVariables false
set_option linter.unusedSimpArgs false
set_option maxRecDepth 100000

theorem wide_any (n : Nat) (hn : n ≤ 9223372036854775807) (w : World) :
    Calls Try.prog 30 #[.int .i64 n] w fun e w' => e = .returned (.int .i64 (abv n : Nat)) ∧ w = w' := by
  by_cases h0 : n = 0
  · subst h0
    go_enter Try.func30, Try.ntmps30
    go_wp2
    go_ret
    exact ⟨rfl, rfl⟩
  · have z0 : ((n : Int) == 0) = false := by simpa using h0
    have x1 : IntKind.i64.wrap ((n : Int) - 1) = (n : Int) - 1 := IntWalk.i64_in _ ⟨by omega, by omega⟩
    have x2 : Int.tdiv ((n : Int) - 1) 7 = ((n : Int) - 1) / 7 := Int.tdiv_eq_ediv_of_nonneg (by omega)
    have x3 : IntKind.i64.wrap (((n : Int) - 1) / 7) = ((n : Int) - 1) / 7 := IntWalk.i64_in _ ⟨by omega, by omega⟩
    have x4 : IntKind.i64.wrap (((n : Int) - 1) / 7 + 1) = (abv n : Nat) := by rw [IntWalk.i64_in _ ⟨by omega, by omega⟩]; unfold abv; omega
    generalize abv n = A at *
    go_enter Try.func30, Try.ntmps30
    go_wp2
    go_ret
    exact ⟨rfl, rfl⟩
/-- Does a use go with a size? -/
def usfB (z u : Int) : Bool := decide (u = 0 ∨ (u = 1 ∧ z = 1) ∨ u = 2)
theorem useful_any (p z u : Int) (w : World) :
    Calls Try.prog 29 #[.agg #[.int .i64 p, .int .i64 z, .int .i64 u]] w fun e w' => e = .returned (.bool (usfB z u)) ∧ Below w.heap.size w w' := by
  have hb0 : Below w.heap.size w (w.alloc (.cells #[.int .i64 p, .int .i64 z, .int .i64 u] 42)) := (Below.refl _ _).alloc (Nat.le_refl _) _
  by_cases c0 : u = 0
  · have e : usfB z u = true := decide_eq_true (Or.inl c0)
    have d0 : (u == 0) = true := by simpa using c0
    rw [e]
    clear c0
    go_enter Try.func29, Try.ntmps29
    go_wp2
    go_ret
    exact ⟨rfl, hb0⟩
  · have d0 : (u == 0) = false := by simpa using c0
    by_cases c1 : u = 1
    · have d1 : (u == 1) = true := by simpa using c1
      have d2 : (u == 2) = false := by simp; omega
      by_cases c2 : z = 1
      · have e : usfB z u = true := decide_eq_true (Or.inr (Or.inl ⟨c1, c2⟩))
        have dz : (z == 1) = true := by simpa using c2
        rw [e]
        clear c0 c1 c2
        go_enter Try.func29, Try.ntmps29
        go_wp2
        go_ret
        exact ⟨rfl, hb0⟩
      · have e : usfB z u = false := decide_eq_false (by omega)
        have dz : (z == 1) = false := by simpa using c2
        rw [e]
        clear c0 c1 c2
        go_enter Try.func29, Try.ntmps29
        go_wp2
        go_ret
        exact ⟨rfl, hb0⟩
    · have d1 : (u == 1) = false := by simpa using c1
      by_cases c2 : u = 2
      · have e : usfB z u = true := decide_eq_true (Or.inr (Or.inr c2))
        have d2 : (u == 2) = true := by simpa using c2
        rw [e]
        clear c0 c1 c2
        go_enter Try.func29, Try.ntmps29
        go_wp2
        go_ret
        exact ⟨rfl, hb0⟩
      · have e : usfB z u = false := decide_eq_false (by omega)
        have d2 : (u == 2) = false := by simpa using c2
        rw [e]
        clear c0 c1 c2
        go_enter Try.func29, Try.ntmps29
        go_wp2
        go_ret
        exact ⟨rfl, hb0⟩
theorem tnodes_same (n : Int) (hn : n ≤ 9223372036854775807) (w : World) :
    Calls Try.prog 16 #[.int .i64 n] w fun e w' => e = .returned (.int .i64 (ntN n)) ∧ w = w' := by
  by_cases h0 : n < 0
  · rw [nt_neg h0]
    go_enter Try.func16, Try.ntmps16
    go_wp2
    go_ret
    exact ⟨rfl, rfl⟩
  · obtain ⟨N, rfl⟩ : ∃ N : Nat, n = N := ⟨n.toNat, by omega⟩
    rw [nt_nat]
    have hb := ndS_two (abv N) (abv N) (Nat.le_refl _)
    have hA : abv N ≤ 1317624576693539402 := by unfold abv; omega
    have hA1 := abv_pos N
    have cN := wide_any N (by omega) w
    go_enter Try.func16, Try.ntmps16
    go_wp2_with (first
      | (go_at_call 30; with_reducible refine cN.mono ?_; rintro e w1 ⟨rfl, rfl⟩))
    go_loopw [3, 4] (fun s3 s4 wr => ∃ (m t : Nat), s3 = .int .i64 m ∧ s4 = .int .i64 t ∧ 1 ≤ m ∧ Hid (t + ndS m = ndS (abv N) + m) ∧ m ≤ abv N ∧ w = wr) (fun s3 _ _ => (intOf s3).toNat)
    case atStart => exact ⟨_, _, rfl, rfl, hA1, hid (by omega), by omega, rfl⟩
    case round =>
      obtain ⟨m, t, rfl, rfl, hm1, HT, hmA, rfl⟩ := hrel
      by_cases hm : m ≤ 1
      · have HE : Hid (t = ndS (abv N)) := hid (by have := HT.out; rw [ndS_le hm] at this; omega)
        have hmi : ¬ (1 < (m : Int)) := by omega
        clear HT cN
        go_wp2
        go_ret
        exact ⟨congrArg (fun x : Nat => Ending.returned (.int .i64 (x : Int))) HE.out, rfl⟩
      · have hmi : 1 < (m : Int) := by omega
        have hlt := abv_lt hm
        have hp := abv_pos m
        have HT2 : Hid (t + abv m + ndS (abv m) = ndS (abv N) + abv m) := hid (by have := HT.out; rw [ndS_gt hm] at this; omega)
        have y5 : IntKind.i64.wrap ((t : Int) + (abv m : Nat)) = ((t + abv m : Nat) : Int) := by
          have h1 := HT2.out
          rw [IntWalk.i64_in _ ⟨by omega, by omega⟩]; omega
        have cM := wide_any m (by omega) w
        clear HT hb hA cN
        generalize abv m = am at *
        go_wp2_with (first
          | (go_at_call 30; with_reducible refine cM.mono ?_; rintro e w1 ⟨rfl, rfl⟩))
        go_roundw
        case rel => exact ⟨am, t + am, rfl, rfl, hp, HT2, by omega, trivial⟩
        case measure => simp [intOf]; omega
theorem tnodes_any (n : Int) (hn : n ≤ 9223372036854775807) (w : World) :
    Calls Try.prog 16 #[.int .i64 n] w fun e w' => e = .returned (.int .i64 (ntN n)) ∧ Below w.heap.size w w' :=
  (tnodes_same n hn w).mono fun e w' ⟨h1, h2⟩ => ⟨h1, by subst h2; exact Below.refl _ _⟩
theorem fitX_no {P a : Int} {f : Bool} {x : Blk} (h : ¬ FitX P a f x) : ((x.pos != a) = true) ∨ ((x.pos != a) = false ∧ x.sz < 1) ∨ ((x.pos != a) = false ∧ ¬ x.sz < 1 ∧ P - a < x.sz) ∨ ((x.pos != a) = false ∧ ¬ x.sz < 1 ∧ ¬ P - a < x.sz ∧ usfB x.sz x.ix = false) ∨ ((x.pos != a) = false ∧ ¬ x.sz < 1 ∧ ¬ P - a < x.sz ∧ usfB x.sz x.ix = true ∧ f = true ∧ (x.ix == 0) = true) := by
  unfold FitX at h
  by_cases c1 : x.pos = a
  · have d1 : (x.pos != a) = false := by simpa using c1
    by_cases c2 : x.sz < 1
    · exact .inr (.inl ⟨d1, c2⟩)
    · by_cases c3 : P - a < x.sz
      · exact .inr (.inr (.inl ⟨d1, c2, c3⟩))
      · by_cases c4 : x.ix = 0 ∨ (x.ix = 1 ∧ x.sz = 1) ∨ x.ix = 2
        · by_cases c8 : f = true ∧ x.ix = 0
          · exact .inr (.inr (.inr (.inr ⟨d1, c2, c3, decide_eq_true c4, c8.1, by simpa using c8.2⟩)))
          · exact (h ⟨c1, by omega, by omega, by omega, by omega, fun c => by omega, c8⟩).elim
        · exact .inr (.inr (.inr (.inl ⟨d1, c2, c3, decide_eq_false c4⟩)))
  · exact .inl (by simpa using c1)
theorem FitX.yes {P a : Int} {f : Bool} {x : Blk} (h : FitX P a f x) : (x.pos != a) = false ∧ ¬ x.sz < 1 ∧ ¬ P - a < x.sz ∧ usfB x.sz x.ix = true ∧ (f = false ∨ (f = true ∧ (x.ix == 0) = false)) := by
  obtain ⟨h1, h2, h3, h4, h5, h6, h7⟩ := h
  refine ⟨by simpa using h1, by omega, by omega, decide_eq_true (by omega), ?_⟩
  cases f with
  | false => exact Or.inl rfl
  | true => exact Or.inr ⟨rfl, by simpa using h7⟩
set_option maxHeartbeats 2000000 in
theorem tright_bs (P : Int) (ao : Option Addr) (n cap : Nat) (l : List Blk) (w : World) (h : Bs w ao n cap l) (hn : n ≤ 9223372036854775807) :
    Calls Try.prog 14 #[.int .i64 P, .slice ao n cap] w fun e w' => e = .returned (.bool (rxB P l)) ∧ Below w.heap.size w w' := by
  have hl := h.len
  by_cases hP : 0 ≤ P ∧ P ≤ 64
  · obtain ⟨p0, p1⟩ := hP
    have HR : Hid (∀ b, (LayX P 0 false l ↔ b = true) → rxB P l = b) := hid (fun b hb => by
      cases b with
      | true => exact rxB_t ⟨⟨p0, p1⟩, hb.2 rfl⟩
      | false => exact rxB_f fun h => by have := hb.1 h.2; cases this)
    go_enter Try.func14, Try.ntmps14
    go_wp2
    go_loopw [5, 6, 17] (fun s5 s6 s17 wr => ∃ (k : Nat) (g : Int) (f : Bool), k ≤ n ∧ s5 = .int .i64 g ∧ s6 = .bool f ∧ s17 = .int .i64 k ∧ 0 ≤ g ∧ g ≤ P ∧ Hid (LayX P 0 false l ↔ LayX P g f (l.drop k)) ∧ Below w.heap.size w wr) (fun _ _ s17 _ => n - (intOf s17).toNat)
    case atStart => exact ⟨0, 0, false, Nat.zero_le _, rfl, rfl, rfl, Int.le_refl _, p0, hid Iff.rfl, Below.refl _ _⟩
    case round =>
      obtain ⟨k, g, f, hk, rfl, rfl, rfl, g0, g1, HL, hb⟩ := hrel
      by_cases hlt : k < n
      · obtain ⟨b, o, rfl, _, _⟩ := h.here (by omega)
        obtain ⟨c0, c1, c2⟩ := h.at hb hlt
        have hki : (k : Int) < (n : Int) := by omega
        have HD := hid (layX_drop (P := P) (a := g) (f := f) (l := l) (k := k) (by omega))
        have HBX : Hid (∀ o : Obj, Below w.heap.size w (wr.alloc o)) := hid (fun o => hb.alloc hb.size o)
        have hwx : IntKind.i64.wrap (P - g) = P - g := IntWalk.i64_in _ ⟨by omega, by omega⟩
        by_cases hfit : FitX P g f (ba l k)
        · have HN : Hid (LayX P 0 false l ↔ LayX P (g + (ba l k).sz) ((ba l k).ix == 0) (l.drop (k + 1))) := hid (by rw [HL.out, HD.out]; exact ⟨fun h => h.2, fun h => ⟨hfit, h⟩⟩)
          obtain ⟨v0, v1, v2, v3, v4⟩ := hfit.yes
          have hg2 : 0 ≤ g + (ba l k).sz ∧ g + (ba l k).sz ≤ P := by omega
          have hw2 : IntKind.i64.wrap (g + (ba l k).sz) = g + (ba l k).sz := IntWalk.i64_in _ ⟨by omega, by omega⟩
          generalize ba l k = s at *
          obtain ⟨p, z, u⟩ := s
          simp only at c0 c1 c2 v0 v1 v2 v3 v4 hg2 hw2 HN
          have HX := hid (bxX_new wr p z u)
          have cU := useful_any p z u (wr.alloc (.cells #[.int .i64 p, .int .i64 z, .int .i64 u] 42))
          rw [v3] at cU
          clear hfit HL HD h HR
          rcases v4 with rfl | ⟨rfl, v5⟩
          · go_wp2_with (first
              | (go_at_call 29; with_reducible refine cU.mono ?_; rintro e w1 ⟨rfl, hb1⟩; obtain ⟨q0, q1, q2, _⟩ := (HX.out.kept hb1).cells; simp only at q0 q1 q2; have hb2 := next (HBX.out _) hb1))
            go_quiet (fail)
            go_wp2
            go_roundw
            case rel => exact ⟨k + 1, g + z, _, by omega, rfl, rfl, by go_num, hg2.1, hg2.2, HN, below_drewN hb2 _⟩
            case measure => simp [intOf]; omega
          · go_wp2_with (first
              | (go_at_call 29; with_reducible refine cU.mono ?_; rintro e w1 ⟨rfl, hb1⟩; obtain ⟨q0, q1, q2, _⟩ := (HX.out.kept hb1).cells; simp only at q0 q1 q2; have hb2 := next (HBX.out _) hb1))
            go_quiet (fail)
            go_wp2
            go_roundw
            case rel => exact ⟨k + 1, g + z, _, by omega, rfl, by rw [v5], by go_num, hg2.1, hg2.2, HN, below_drewN hb2 _⟩
            case measure => simp [intOf]; omega
        · have HF : Hid (rxB P l = false) := hid (HR.out false (by rw [HL.out, HD.out]; exact ⟨fun h => absurd h.1 hfit, fun h => by cases h⟩))
          have hd := fitX_no hfit
          generalize ba l k = s at *
          obtain ⟨p, z, u⟩ := s
          simp only at c0 c1 c2 hd
          have HX := hid (bxX_new wr p z u)
          have cU := useful_any p z u (wr.alloc (.cells #[.int .i64 p, .int .i64 z, .int .i64 u] 42))
          clear hfit HL HD h HR
          rcases hd with a1 | ⟨a1, a2⟩ | ⟨a1, a2, a3⟩ | ⟨a1, a2, a3, a4⟩ | ⟨a1, a2, a3, a4, a5, a6⟩
          · go_wp2
            go_ret
            exact ⟨ret_bool HF.out.symm, HBX.out _⟩
          · go_wp2
            go_ret
            exact ⟨ret_bool HF.out.symm, HBX.out _⟩
          · go_wp2
            go_ret
            exact ⟨ret_bool HF.out.symm, HBX.out _⟩
          · rw [a4] at cU
            go_wp2_with (first
              | (go_at_call 29; with_reducible refine cU.mono ?_; rintro e w1 ⟨rfl, hb1⟩; have hb2 := next (HBX.out _) hb1))
            go_ret
            exact ⟨ret_bool HF.out.symm, hb2⟩
          · rw [a4] at cU
            subst a5
            go_wp2_with (first
              | (go_at_call 29; with_reducible refine cU.mono ?_; rintro e w1 ⟨rfl, hb1⟩; obtain ⟨q0, q1, q2, _⟩ := (HX.out.kept hb1).cells; simp only at q0 q1 q2; have hb2 := next (HBX.out _) hb1))
            go_ret
            exact ⟨ret_bool HF.out.symm, hb2⟩
      · obtain rfl : k = n := by omega
        have hkz : ¬ ((k : Int) < (k : Int)) := by omega
        by_cases hg : g = P
        · have HF : Hid (rxB P l = true) := hid (HR.out true (by rw [HL.out, layX_end (by omega)]; exact ⟨fun _ => rfl, fun _ => hg⟩))
          have hgd : (g == P) = true := by simpa using hg
          clear HL HR h hg
          go_wp2
          go_ret
          exact ⟨ret_bool HF.out.symm, hb⟩
        · have HF : Hid (rxB P l = false) := hid (HR.out false (by rw [HL.out, layX_end (by omega)]; exact ⟨fun c => absurd c hg, fun c => by cases c⟩))
          have hgd : (g == P) = false := by simpa using hg
          clear HL HR h hg
          go_wp2
          go_ret
          exact ⟨ret_bool HF.out.symm, hb⟩
  · rw [rxB_f (fun c => hP c.1)]
    clear h
    by_cases c : P < 0
    · go_enter Try.func14, Try.ntmps14
      go_wp2
      go_ret
      exact ⟨rfl, Below.refl _ _⟩
    · have c2 : 64 < P := by omega
      clear hP
      go_enter Try.func14, Try.ntmps14
      go_wp2
      go_ret
      exact ⟨rfl, Below.refl _ _⟩
end Go.Proofs.Ythkloknongkpdaa
