/- joistlaw08.TableStale walked: it returns true. -/
import Derived.Test.YtijfiaggneeibaaSmallTab
import Derived.Test.YtijfiaggneeibaaOpenAct8
namespace Go.Proofs.Ytijfiaggneeibaa
set_option maxRecDepth 100000
open Go.RowKit
set_option linter.unusedVariables false
set_option linter.unusedSimpArgs false
set_option maxRecDepth 100000

/-- A right table of n slots, in which the slot i has come further than G. -/
structure Past (n i : Nat) (G : Int) (M : List Slt) : Prop where
  r : RightT M
  l : M.length = n
  k : i < n
  g : G < (sg M i).gen
theorem Past.find {n i : Nat} {G : Int} {M : List Slt} (h : Past n i G M) : ¬ FnOk M (i : Int) G := fun hf => by
  have h1 := hf.2.2.2
  have h2 := h.g
  simp only [Int.toNat_natCast] at h1
  omega
theorem Past.take {n i : Nat} {G : Int} {M : List Slt} (h : Past n i G M) {s : Slt} (hk : TkOk M s) : Past n i G (M.set (nxN M) (tkS M s)) := by
  have hx := (nx_spec hk.2.1).1
  refine ⟨h.r.set _ hk.2.2, by rw [List.length_set]; exact h.l, h.k, ?_⟩
  by_cases e : nxN M = i
  · have h2 := h.g
    rw [e, sg_set_same _ _ _ (by rw [h.l]; exact h.k)]
    show G < (sg M (nxN M)).gen
    rw [e]; exact h2
  · rw [sg_set_other _ _ _ _ e]; exact h.g
theorem Past.free {n i : Nat} {G : Int} {M : List Slt} (h : Past n i G M) {k : Int} (hk : FrOk M k) : Past n i G (M.set k.toNat (frS (sg M k.toNat))) := by
  have hk2 : k.toNat < M.length := by have := hk.2.1; have := hk.2.2.1; omega
  refine ⟨h.r.set _ (frS_may (h.r.may hk2)), by rw [List.length_set]; exact h.l, h.k, ?_⟩
  by_cases e : k.toNat = i
  · have h2 := h.g
    have h3 := (h.r.may hk2).1
    rw [e] at h3
    rw [e, sg_set_same _ _ _ (by rw [h.l]; exact h.k)]
    show G < min ((sg M i).gen + 1) 65535
    omega
  · rw [sg_set_other _ _ _ _ e]; exact h.g
theorem Past.first {l : List Slt} {i : Nat} {G : Int} (hr : RightT l) (hi : i < l.length) (hg : (sg l i).gen = G) (hm : G ≠ 65535) : Past l.length i G (l.set i (frS (sg l i))) := by
  have h3 := (hr.may hi).1
  refine ⟨hr.set _ (frS_may (hr.may hi)), List.length_set, hi, ?_⟩
  rw [sg_set_same _ _ _ hi]
  show G < min ((sg l i).gen + 1) 65535
  omega
theorem stale_find (a : Option Addr) (n c i : Nat) (G : Int) (M : List Slt) (w : World) (h : Tb w a n c M) (hn : n ≤ 9223372036854775807) (hp : Past n i G M) :
    Calls Try.prog 12 #[.slice a n c, .agg #[.int .i64 i, .int .i64 G]] w fun e w' => e = .returned (.tuple #[.int .i64 0, .bool false]) ∧ Below w.heap.size w w' := by
  have := find_tb a n c M i G w h hn
  rwa [(fn_f hp.find).1, (fn_f hp.find).2] at this
theorem stale_right (a : Option Addr) (n c i : Nat) (G : Int) (M : List Slt) (w : World) (h : Tb w a n c M) (hn : n ≤ 9223372036854775807) (hp : Past n i G M) :
    Calls Try.prog 17 #[.slice a n c] w fun e w' => e = .returned (.bool true) ∧ Below w.heap.size w w' := by
  have := right_tb a n c M w h hn
  rwa [rightB_t hp.r] at this
theorem stale_take (a : Option Addr) (n c i : Nat) (G : Int) (M : List Slt) (s : Slt) (w : World) (h : Tb w a n c M) (hs : RgS s) (hc : c ≤ 9223372036854775807) (hp : Past n i G M) (hk : TkOk M s) :
    Calls Try.prog 22 #[.slice a n c, .agg #[.int .i64 s.gen, .bool s.live, .bool s.two, .int .i64 s.pos, .int .i64 s.len]] w fun e w' => ∃ bo c', e = .returned (.tuple #[.slice bo n c', .agg #[.int .i64 (nxN M : Nat), .int .i64 (sg M (nxN M)).gen], .int .i64 0]) ∧ OwT w.heap.size w' bo n c' (M.set (nxN M) (tkS M s)) ∧ Below w.heap.size w w' := by
  obtain ⟨e1, e2, e3, e4⟩ := tk_t hk
  refine (take_tb a n c M s w h hs hc).mono ?_
  rintro e w' ⟨bo, m, c', rfl, ho, hb⟩
  rw [e2] at ho
  rw [e1, e3, e4]
  obtain rfl : n = m := by rw [← ho.len, List.length_set, hp.l]
  exact ⟨bo, c', rfl, ho, hb⟩
theorem stale_untaken (a : Option Addr) (n c : Nat) (M : List Slt) (s : Slt) (w : World) (h : Tb w a n c M) (hs : RgS s) (hc : c ≤ 9223372036854775807) (hk : ¬ TkOk M s) :
    Calls Try.prog 22 #[.slice a n c, .agg #[.int .i64 s.gen, .bool s.live, .bool s.two, .int .i64 s.pos, .int .i64 s.len]] w fun e w' => ∃ bo m c', e = .returned (.tuple #[.slice bo m c', .agg #[.int .i64 0, .int .i64 0], .int .i64 (tkE M s)]) ∧ Below w.heap.size w w' := by
  obtain ⟨e1, e2, e3, e4⟩ := tk_f hk
  refine (take_tb a n c M s w h hs hc).mono ?_
  rintro e w' ⟨bo, m, c', rfl, ho, hb⟩
  rw [e2, e3]
  exact ⟨bo, m, c', rfl, hb⟩
theorem stale_free (a : Option Addr) (n c i : Nat) (G k : Int) (M : List Slt) (w : World) (h : Tb w a n c M) (hc : c ≤ 9223372036854775807) (hp : M.length = n) (hk : FrOk M k) :
    Calls Try.prog 23 #[.slice a n c, .int .i64 k] w fun e w' => ∃ bo c', e = .returned (.tuple #[.slice bo n c', .int .i64 0]) ∧ OwT w.heap.size w' bo n c' (M.set k.toNat (frS (sg M k.toNat))) ∧ Below w.heap.size w w' := by
  obtain ⟨e1, e2⟩ := fr_t hk
  refine (free_tb a n c M k w h hc).mono ?_
  rintro e w' ⟨bo, m, c', rfl, ho, hb⟩
  rw [e2] at ho
  rw [e1]
  obtain rfl : n = m := by rw [← ho.len, List.length_set, hp]
  exact ⟨bo, c', rfl, ho, hb⟩
theorem stale_unfreed (a : Option Addr) (n c : Nat) (k : Int) (M : List Slt) (w : World) (h : Tb w a n c M) (hc : c ≤ 9223372036854775807) (hk : ¬ FrOk M k) :
    Calls Try.prog 23 #[.slice a n c, .int .i64 k] w fun e w' => ∃ bo m c', e = .returned (.tuple #[.slice bo m c', .int .i64 1]) ∧ Below w.heap.size w w' := by
  obtain ⟨e1, e2⟩ := fr_f hk
  refine (free_tb a n c M k w h hc).mono ?_
  rintro e w' ⟨bo, m, c', rfl, ho, hb⟩
  rw [e1]
  exact ⟨bo, m, c', rfl, hb⟩
def Act8.obj (A : Act8) : Obj := .cells #[.int .i64 A.act, .int .i64 A.s.gen, .bool A.s.live, .bool A.s.two, .int .i64 A.s.pos, .int .i64 A.s.len, .int .i64 A.k] 57
set_option maxHeartbeats 4000000 in
theorem tableStale_walk (W : World) (ao : Option Addr) (n cap : Nat) (l : List Slt) (h : Tb W ao n cap l) (hc : cap * 32 ≤ 140737488351232) (I G : Int) (aa : Option Addr) (na ca : Nat) (D : Nat → Act8) (hD : Acts8 W aa na D) :
    Calls Try.prog 6 #[.slice ao n cap, .agg #[.int .i64 I, .int .i64 G], .slice aa na ca] W fun e W' => e = .returned (.bool true) ∧ Below W.heap.size W W' := by
  have hl := h.len
  have hroom := h.room
  have hcap : cap ≤ 9223372036854775807 := by omega
  have hn : n ≤ 9223372036854775807 := by omega
  have hna := hD.fit
  have bX := below_more W (.cells #[.int .i64 I, .int .i64 G] 24)
  have xX := bx_new W I G
  have cFi : ∀ w, Below W.heap.size W w → Calls Try.prog 12 #[.slice ao n cap, .agg #[.int .i64 I, .int .i64 G]] w fun e w' => e = .returned (.tuple #[.int .i64 (fnI l I G), .bool (fnB l I G)]) ∧ Below w.heap.size w w' := fun w hb => find_tb ao n cap l I G w (h.below hb) hn
  by_cases hf : FnOk l I G
  · rw [(fn_t hf).1, (fn_t hf).2] at cFi
    obtain ⟨f0, f1, f2, f3⟩ := hf
    obtain ⟨i, rfl⟩ := Int.eq_ofNat_of_zero_le f0
    simp only [Int.toNat_natCast] at f2 f3
    have hi : i < n := by omega
    by_cases hr : RightT l
    · have hk : FrOk l (i : Int) := ⟨hr, f0, f1, by simpa using f2⟩
      have cFr : ∀ w, Below W.heap.size W w → _ := fun w hb => stale_free ao n cap i G (i : Int) l w (h.below hb) hcap hl hk
      simp only [Int.toNat_natCast] at cFr
      by_cases hG : G = 65535
      · have hG' : (G == 65535) = true := by simpa using hG
        clear h hD hr hk f0 f1 f2 f3 hG
        go_enter Try.func6, Try.ntmps6
        go_wp2_with (first
          | (go_at_call 9; with_reducible refine (small_any _).mono ?_; rintro e w1 ⟨rfl, hb1⟩; have b1 := next bX hb1; have x1 := xX.kept hb1; obtain ⟨u0, u1, _, _⟩ := x1.cells)
          | (go_at_call 12; with_reducible refine (cFi _ b1).mono ?_; rintro e w2 ⟨rfl, hb2⟩; have b2 := next b1 hb2; have x2 := x1.kept hb2)
          | (go_at_call 23; with_reducible refine (cFr _ b2).mono ?_; rintro e w3 ⟨a3, k3, rfl, ho3, hb3⟩; obtain ⟨v0, v1, _, _⟩ := (x2.kept hb3).cells))
        go_ret
        exact ⟨rfl, next b2 hb3⟩
      · have hG' : (G == 65535) = false := by simpa using hG
        have HP : Hid (Past n i G (l.set i (frS (sg l i)))) := hid (by rw [← hl]; exact Past.first hr (by omega) f3 hG)
        generalize l.set i (frS (sg l i)) = M0 at *
        clear h hr hk f0 f1 f2 f3 hG
        go_enter Try.func6, Try.ntmps6
        go_wp2_with (first
          | (go_at_call 9; with_reducible refine (small_any _).mono ?_; rintro e w1 ⟨rfl, hb1⟩; have b1 := next bX hb1; have x1 := xX.kept hb1; obtain ⟨u0, u1, _, _⟩ := x1.cells)
          | (go_at_call 12; with_reducible refine (cFi _ b1).mono ?_; rintro e w2 ⟨rfl, hb2⟩; have b2 := next b1 hb2; have x2 := x1.kept hb2)
          | (go_at_call 23; with_reducible refine (cFr _ b2).mono ?_; rintro e w3 ⟨a3, k3, rfl, ho3, hb3⟩; have x3 := x2.kept hb3; have b3 := next b2 hb3; obtain ⟨v0, v1, _, _⟩ := x3.cells))
        clear u0 u1 v0 v1
        go_loopw [10, 12] (fun s10 s12 wr => ∃ (j : Nat) (a : Option Addr) (c : Nat) (M : List Slt), j ≤ na ∧ j ≤ 200 ∧ s12 = .int .i64 j ∧ s10 = .slice a n c ∧ c ≤ 9223372036854775807 ∧ Tb wr a n c M ∧ Hid (Past n i G M) ∧ Below w3.heap.size w3 wr) (fun _ s12 _ => na - (intOf s12).toNat)
        case atStart => exact ⟨0, a3, k3, M0, Nat.zero_le _, Nat.zero_le _, rfl, rfl, ho3.cap_le.2, ho3.tb, HP, Below.refl _ _⟩
        case round =>
          obtain ⟨j, a, c, M, hj, hj2, rfl, rfl, hc', ht, HM, hb⟩ := hrel
          clear ho3 HP cFi cFr xX x1 x2 hb1 hb2 hb3 bX b1 b2
          by_cases hlt : j < na
          · have hji : (j : Int) < (na : Int) := by omega
            by_cases hlt2 : j < 200
            · have hj2i : (j : Int) < 200 := by omega
              obtain ⟨ba, oa, rfl, _, _⟩ := hD.here (by omega)
              obtain ⟨c0, c1, c2, c3, c4, c5, c6⟩ := hD.at (next b3 hb) hlt
              have hrg := hD.rg j hlt
              generalize D j = A at *
              obtain ⟨act, s, k⟩ := A
              simp only at c0 c1 c2 c3 c4 c5 c6 hrg
              have bA := below_more wr (Act8.obj ⟨act, s, k⟩)
              have tA := ht.below bA
              have bA' := next hb bA
              clear hD
              by_cases hact : act = 0
              · subst hact
                by_cases hk : TkOk M s
                · have cT := stale_take a n c i G M s _ tA hrg hc' HM.out hk
                  have HM2 : Hid (Past n i G (M.set (nxN M) (tkS M s))) := hid (HM.out.take hk)
                  have hne : nxN M = i → (sg M (nxN M)).gen ≠ G := fun e e2 => by have := HM.out.g; rw [e] at e2; omega
                  generalize M.set (nxN M) (tkS M s) = M2 at *
                  generalize nxN M = x at *
                  generalize (sg M x).gen = gx at *
                  obtain ⟨sg0, sl, st, sp, sn⟩ := s
                  simp only at *
                  clear hk hrg
                  by_cases hx : x = i
                  · subst hx
                    have hg2 : (gx == G) = false := by simpa using hne rfl
                    clear hne
                    go_wp2_with (first
                      | (go_at_call 22; refine cT.mono ?_; rintro e w5 ⟨a5, k5, rfl, ho5, hb5⟩; have bB := nextA' hb5 (.cells #[.int .i64 x, .int .i64 gx] 24); have bC := next bA' bB; obtain ⟨u0, u1, _, _⟩ := (x3.kept bC).cells; obtain ⟨v0, v1, _, _⟩ := (bx_new w5 x gx).cells; have o5 := ho5.below (below_more w5 (.cells #[.int .i64 x, .int .i64 gx] 24)))
                      | (go_at_call 12; with_reducible refine (stale_find a5 n k5 x G M2 _ o5.tb hn HM2.out).mono ?_; rintro e w6 ⟨rfl, hb6⟩; have o6 := o5.below hb6)
                      | (go_at_call 17; with_reducible refine (stale_right a5 n k5 x G M2 _ o6.tb hn HM2.out).mono ?_; rintro e w7 ⟨rfl, hb7⟩; have o7 := o6.below hb7))
                    go_roundw
                    case rel => exact ⟨j + 1, a5, k5, M2, by omega, by omega, by go_num, rfl, o7.cap_le.2, o7.tb, HM2, next (next bC hb6) hb7⟩
                    case measure => simp [intOf]; omega
                  · have hx2 : ((x : Int) == (i : Int)) = false := by simp; omega
                    clear hne
                    go_wp2_with (first
                      | (go_at_call 22; refine cT.mono ?_; rintro e w5 ⟨a5, k5, rfl, ho5, hb5⟩; have bB := nextA' hb5 (.cells #[.int .i64 x, .int .i64 gx] 24); have bC := next bA' bB; obtain ⟨u0, u1, _, _⟩ := (x3.kept bC).cells; obtain ⟨v0, v1, _, _⟩ := (bx_new w5 x gx).cells; have o5 := ho5.below (below_more w5 (.cells #[.int .i64 x, .int .i64 gx] 24)))
                      | (go_at_call 12; with_reducible refine (stale_find a5 n k5 i G M2 _ o5.tb hn HM2.out).mono ?_; rintro e w6 ⟨rfl, hb6⟩; have o6 := o5.below hb6)
                      | (go_at_call 17; with_reducible refine (stale_right a5 n k5 i G M2 _ o6.tb hn HM2.out).mono ?_; rintro e w7 ⟨rfl, hb7⟩; have o7 := o6.below hb7))
                    go_roundw
                    case rel => exact ⟨j + 1, a5, k5, M2, by omega, by omega, by go_num, rfl, o7.cap_le.2, o7.tb, HM2, next (next bC hb6) hb7⟩
                    case measure => simp [intOf]; omega
                · have cT := stale_untaken a n c M s _ tA hrg hc' hk
                  have hE : (tkE M s == 0) = false := by rcases (tk_f hk).2.2.2 with e | e <;> rw [e] <;> rfl
                  generalize tkE M s = E at *
                  obtain ⟨sg0, sl, st, sp, sn⟩ := s
                  simp only at *
                  clear hk hrg
                  go_wp2_with (first
                    | (go_at_call 22; refine cT.mono ?_; rintro e w5 ⟨a5, m5, k5, rfl, hb5⟩; have bB := nextA' hb5 (.cells #[.int .i64 0, .int .i64 0] 24); have bC := next bA' bB; obtain ⟨u0, u1, _, _⟩ := (x3.kept bC).cells; have o5 := tA.below bB)
                    | (go_at_call 12; with_reducible refine (stale_find a n c i G M _ o5 hn HM.out).mono ?_; rintro e w6 ⟨rfl, hb6⟩; have o6 := o5.below hb6)
                    | (go_at_call 17; with_reducible refine (stale_right a n c i G M _ o6 hn HM.out).mono ?_; rintro e w7 ⟨rfl, hb7⟩; have o7 := o6.below hb7))
                  go_roundw
                  case rel => exact ⟨j + 1, a, c, M, by omega, by omega, by go_num, rfl, hc', o7, HM, next (next bC hb6) hb7⟩
                  case measure => simp [intOf]; omega
              · have hact' : (act == 0) = false := by simpa using hact
                clear hact
                by_cases hk : FrOk M k
                · have cT := stale_free a n c i G k M _ tA hc' HM.out.l hk
                  have HM2 : Hid (Past n i G (M.set k.toNat (frS (sg M k.toNat)))) := hid (HM.out.free hk)
                  generalize M.set k.toNat (frS (sg M k.toNat)) = M2 at *
                  obtain ⟨sg0, sl, st, sp, sn⟩ := s
                  simp only at *
                  clear hk hrg
                  go_wp2_with (first
                    | (go_at_call 23; refine cT.mono ?_; rintro e w5 ⟨a5, k5, rfl, ho5, hb5⟩; have bC := next bA' hb5; obtain ⟨u0, u1, _, _⟩ := (x3.kept bC).cells)
                    | (go_at_call 12; with_reducible refine (stale_find a5 n k5 i G M2 _ ho5.tb hn HM2.out).mono ?_; rintro e w6 ⟨rfl, hb6⟩; have o6 := ho5.below hb6)
                    | (go_at_call 17; with_reducible refine (stale_right a5 n k5 i G M2 _ o6.tb hn HM2.out).mono ?_; rintro e w7 ⟨rfl, hb7⟩; have o7 := o6.below hb7))
                  go_roundw
                  case rel => exact ⟨j + 1, a5, k5, M2, by omega, by omega, by go_num, rfl, o7.cap_le.2, o7.tb, HM2, next (next bC hb6) hb7⟩
                  case measure => simp [intOf]; omega
                · have cT := stale_unfreed a n c k M _ tA hc' hk
                  obtain ⟨sg0, sl, st, sp, sn⟩ := s
                  simp only at *
                  clear hk hrg
                  go_wp2_with (first
                    | (go_at_call 23; refine cT.mono ?_; rintro e w5 ⟨a5, m5, k5, rfl, hb5⟩; have bC := next bA' hb5; obtain ⟨u0, u1, _, _⟩ := (x3.kept bC).cells; have o5 := tA.below hb5)
                    | (go_at_call 12; with_reducible refine (stale_find a n c i G M _ o5 hn HM.out).mono ?_; rintro e w6 ⟨rfl, hb6⟩; have o6 := o5.below hb6)
                    | (go_at_call 17; with_reducible refine (stale_right a n c i G M _ o6 hn HM.out).mono ?_; rintro e w7 ⟨rfl, hb7⟩; have o7 := o6.below hb7))
                  go_roundw
                  case rel => exact ⟨j + 1, a, c, M, by omega, by omega, by go_num, rfl, hc', o7, HM, next (next bC hb6) hb7⟩
                  case measure => simp [intOf]; omega
            · have hj2i : ¬ ((j : Int) < 200) := by omega
              go_wp2
              go_ret
              exact ⟨rfl, next b3 hb⟩
          · have hji : ¬ ((j : Int) < (na : Int)) := by omega
            go_wp2
            go_ret
            exact ⟨rfl, next b3 hb⟩
    · have hk : ¬ FrOk l (i : Int) := fun hk => hr hk.1
      have cFr : ∀ w, Below W.heap.size W w → _ := fun w hb => stale_unfreed ao n cap (i : Int) l w (h.below hb) hcap hk
      clear h hD hr hk f0 f1 f2 f3
      go_enter Try.func6, Try.ntmps6
      go_wp2_with (first
        | (go_at_call 9; with_reducible refine (small_any _).mono ?_; rintro e w1 ⟨rfl, hb1⟩; have b1 := next bX hb1; have x1 := xX.kept hb1; obtain ⟨u0, u1, _, _⟩ := x1.cells)
        | (go_at_call 12; with_reducible refine (cFi _ b1).mono ?_; rintro e w2 ⟨rfl, hb2⟩; have b2 := next b1 hb2; have x2 := x1.kept hb2)
        | (go_at_call 23; with_reducible refine (cFr _ b2).mono ?_; rintro e w3 ⟨a3, m3, k3, rfl, hb3⟩))
      go_ret
      exact ⟨rfl, next b2 hb3⟩
  · rw [(fn_f hf).1, (fn_f hf).2] at cFi
    have cFr : ∀ w, Below W.heap.size W w → _ := fun w hb => free_tb ao n cap l 0 w (h.below hb) hcap
    clear h hD hf
    go_enter Try.func6, Try.ntmps6
    go_wp2_with (first
      | (go_at_call 9; with_reducible refine (small_any _).mono ?_; rintro e w1 ⟨rfl, hb1⟩; have b1 := next bX hb1; have x1 := xX.kept hb1; obtain ⟨u0, u1, _, _⟩ := x1.cells)
      | (go_at_call 12; with_reducible refine (cFi _ b1).mono ?_; rintro e w2 ⟨rfl, hb2⟩; have b2 := next b1 hb2; have x2 := x1.kept hb2)
      | (go_at_call 23; with_reducible refine (cFr _ b2).mono ?_; rintro e w3 ⟨a3, m3, k3, rfl, ho3, hb3⟩))
    go_ret
    exact ⟨rfl, next b2 hb3⟩
end Go.Proofs.Ytijfiaggneeibaa
