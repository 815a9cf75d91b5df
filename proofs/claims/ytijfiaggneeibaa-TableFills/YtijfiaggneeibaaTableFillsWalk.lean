/- joistlaw08.TableFills walked: it returns true. -/
import Derived.Test.YtijfiaggneeibaaSmallTab
namespace Go.Proofs.Ytijfiaggneeibaa
set_option maxRecDepth 100000
open Go.RowKit
set_option linter.unusedVariables false
set_option linter.unusedSimpArgs false
set_option maxRecDepth 100000

theorem nI_get (r : List Nat) (j x : Nat) (t : List Nat) (h : r.drop j = x :: t) : (nI r).getD j 0 = (x : Int) ∧ j < r.length := by
  have hj : j < r.length := by
    rcases Nat.lt_or_ge j r.length with hj | hj
    · exact hj
    · rw [List.drop_of_length_le hj] at h; cases h
  have e : r[j]? = some x := by
    have := congrArg (fun l => l[0]?) h
    simpa using this
  exact ⟨by simp [nI, List.getD, e], hj⟩
theorem chN_set {l : List Slt} {k : Nat} {s : Slt} (hk : k < l.length) (hs : openB s = false) (j : Nat) : chN (l.set k s) j = (chN l j).filter (fun i => decide (i ≠ k)) := by
  induction j with
  | zero => rfl
  | succ j ih =>
    by_cases e : j = k
    · subst e
      rw [chN_no (by rw [sg_set_same l j s hk]; exact hs), ih]
      cases ho : openB (sg l j) with
      | true => rw [chN_yes ho, List.filter_append]; simp
      | false => rw [chN_no ho]
    · have e1 : sg (l.set k s) j = sg l j := sg_set_other l k j s (fun h => e h.symm)
      cases ho : openB (sg l j) with
      | true => rw [chN_yes (by rw [e1]; exact ho), chN_yes ho, ih, List.filter_append]; simp [e]
      | false => rw [chN_no (by rw [e1]; exact ho), chN_no ho, ih]
/-- When the first open slot is taken the others are open still. -/
theorem chT_taken {l : List Slt} {k : Nat} {r : List Nat} (h : chT l = k :: r) {s : Slt} (hs : openB s = false) : chT (l.set k s) = r := by
  have hk : k < l.length := (mem_chN.1 (show k ∈ chN l l.length by rw [show chN l l.length = k :: r from h]; simp)).1
  have hp := chN_sorted l l.length
  have h' : chN l l.length = k :: r := h
  rw [h', List.pairwise_cons] at hp
  unfold chT
  rw [List.length_set, chN_set hk hs, h']
  rw [List.filter_cons_of_neg (by simp)]
  exact List.filter_eq_self.2 (fun a ha => by have := hp.1 a ha; simp; omega)
def flS : Slt := ⟨0, false, false, 4, 1⟩
theorem flS_rgs : RgS flS := ⟨by unfold Rg; decide, by unfold Rg; decide, by unfold Rg; decide⟩
theorem fl_may {l : List Slt} {k : Nat} {r : List Nat} (hr : RightT l) (h : chT l = k :: r) : MayS (tkS l flS) ∧ tkS l flS = ⟨(sg l k).gen, true, false, 4, 1⟩ ∧ k < l.length := by
  have hk : k < l.length := (mem_chN.1 (show k ∈ chN l l.length by rw [show chN l l.length = k :: r from h]; simp)).1
  have e : tkS l flS = ⟨(sg l k).gen, true, false, 4, 1⟩ := by unfold tkS; rw [(nx_of h).1]; rfl
  refine ⟨?_, e, hk⟩
  rw [e]
  exact ⟨(hr.may hk).1, Or.inl ⟨rfl, by show (0 : Int) ≤ 4; decide, by show (4 : Int) ≤ 2048; decide, by show (1 : Int) ≤ 1; decide, by show (1 : Int) ≤ 2048; decide⟩⟩
theorem fills_take (a : Option Addr) (n c : Nat) (l : List Slt) (k : Nat) (r : List Nat) (w : World) (h : Tb w a n c l) (hc : c ≤ 9223372036854775807) (hr : RightT l) (hk : chT l = k :: r) :
    Calls Try.prog 22 #[.slice a n c, .agg #[.int .i64 0, .bool false, .bool false, .int .i64 4, .int .i64 1]] w fun e w' => ∃ g c', e = .returned (.tuple #[.slice (some ⟨g, 0, none⟩) n c', .agg #[.int .i64 k, .int .i64 (sg l k).gen], .int .i64 0]) ∧ OwT w.heap.size w' (some ⟨g, 0, none⟩) n c' (l.set k ⟨(sg l k).gen, true, false, 4, 1⟩) ∧ Below w.heap.size w w' := by
  obtain ⟨h1, h2, h3⟩ := fl_may hr hk
  obtain ⟨e1, e2, e3, e4⟩ := tk_t (l := l) (s := flS) ⟨hr, by rw [hk]; simp, h1⟩
  rw [(nx_of hk).1] at e2 e3 e4
  rw [h2] at e2
  have hl := h.len
  have hlen := hr.len
  refine (take_tb a n c l flS w h flS_rgs hc).mono ?_
  rintro e w' ⟨bo, m, c', rfl, ho, hb⟩
  rw [e2] at ho
  rw [e1, e3, e4]
  obtain rfl : n = m := by rw [← ho.len, List.length_set, hl]
  obtain ⟨g, rfl, _⟩ := ho.shape (by omega)
  exact ⟨g, c', rfl, ho, hb⟩
set_option maxHeartbeats 2000000 in
theorem tableFills_walk (W : World) (ao : Option Addr) (n cap : Nat) (l : List Slt) (h : Tb W ao n cap l) (hc : cap * 32 ≤ 140737488351232) :
    Calls Try.prog 8 #[.slice ao n cap] W fun e W' => e = .returned (.bool true) ∧ Below W.heap.size W W' := by
  have hl := h.len
  have hroom := h.room
  have hcap : cap ≤ 9223372036854775807 := by omega
  have hn : n ≤ 9223372036854775807 := by omega
  have hn8 : n ≤ 8796093022208 := by omega
  by_cases hr : RightT l
  · have cR : ∀ w, Below W.heap.size W w → Calls Try.prog 17 #[.slice ao n cap] w fun e w' => e = .returned (.bool true) ∧ Below w.heap.size w w' := fun w hb => by
      have := right_tb ao n cap l w (h.below hb) hn
      rwa [rightB_t hr] at this
    have HR := hid hr
    have Hlen := hid hr.len
    clear hr
    go_enter Try.func8, Try.ntmps8
    go_wp2_with (first
      | (go_at_call 9; with_reducible refine (small_any _).mono ?_; rintro e w1 ⟨rfl, hb1⟩)
      | (go_at_call 17; with_reducible refine (cR _ hb1).mono ?_; rintro e w2 ⟨rfl, hb2⟩; have b2 := next hb1 hb2)
      | (go_at_call 20; with_reducible refine (chain_tb _ _ _ l w2 (h.below b2) hn8).mono ?_; rintro e w3 ⟨a3, m3, k3, rfl, ho3, hb3⟩; have b3 := next b2 hb3))
    have lm : (chT l).length = m3 := by have := ho3.len; rwa [nI_length] at this
    have hm3 : m3 ≤ 9223372036854775807 := by have := ho3.cap_le; omega
    go_loopw [0, 5] (fun s0 s5 wr => ∃ (j : Nat) (a : Option Addr) (c : Nat) (l' : List Slt), j ≤ m3 ∧ s5 = .int .i64 j ∧ s0 = .slice a n c ∧ c ≤ 9223372036854775807 ∧ Tb wr a n c l' ∧ Hid (RightT l' ∧ chT l' = (chT l).drop j) ∧ Below w3.heap.size w3 wr) (fun _ s5 _ => m3 - (intOf s5).toNat)
    case atStart => exact ⟨0, ao, cap, l, Nat.zero_le _, rfl, rfl, hcap, h.below b3, hid ⟨HR.out, by simp⟩, Below.refl _ _⟩
    case round =>
      obtain ⟨j, a, c, l', hj, rfl, rfl, hc', ht, HL, hb⟩ := hrel
      clear h HR cR
      by_cases hlt : j < m3
      · obtain ⟨x, t, hx⟩ : ∃ x t, (chT l).drop j = x :: t := by
          cases e : (chT l).drop j with
          | nil => have := congrArg List.length e; simp at this; omega
          | cons x t => exact ⟨x, t, rfl⟩
        obtain ⟨nx1, nx2⟩ := nI_get _ _ _ _ hx
        have hch : chT l' = x :: t := HL.out.2.trans hx
        have cN : ∀ w, Tb w a n c l' → Calls Try.prog 14 #[.slice a n c] w fun e w' => e = .returned (.tuple #[.int .i64 (x : Int), .bool true]) ∧ Below w.heap.size w w' := fun w hw => by
          have := next_tb a n c l' w hw hn
          rwa [(nx_of hch).1, (nx_of hch).2] at this
        have cT := fun w hw => fills_take a n c l' x t w hw hc' HL.out.1 hch
        obtain ⟨q1, q2, q3⟩ := fl_may HL.out.1 hch
        have hl' := ht.len
        have hxn : x < n := by omega
        have HL2 : Hid (RightT (l'.set x ⟨(sg l' x).gen, true, false, 4, 1⟩) ∧ chT (l'.set x ⟨(sg l' x).gen, true, false, 4, 1⟩) = (chT l).drop (j + 1)) := by
          refine hid ⟨HL.out.1.set x (by rw [← q2]; exact q1), ?_⟩
          rw [chT_taken hch (by simp [openB, OpenS])]
          have : (chT l).drop (j + 1) = ((chT l).drop j).drop 1 := by rw [List.drop_drop]
          rw [this, hx]; rfl
        have HS : Hid (sg (l'.set x ⟨(sg l' x).gen, true, false, 4, 1⟩) x = ⟨(sg l' x).gen, true, false, 4, 1⟩) := hid (sg_set_same _ _ _ q3)
        obtain ⟨b', off', rfl, _, _⟩ := ht.here (by omega)
        have Hat : Hid (∀ w, Below wr.heap.size wr w → w.cell? ⟨b', off' + x * 5, none⟩ = some (.int .i64 (sg l' x).gen)) := fun w hw => (ht.at hw hxn).c0
        obtain ⟨g3, e3⟩ : ∃ g3, a3 = some ⟨g3, 0, none⟩ := by
          obtain ⟨g3, c, e⟩ := own_shape ho3.row (by omega)
          simp only [Value.slice.injEq] at e
          exact ⟨g3, e.1⟩
        subst e3
        have Hc3 : Hid (∀ w, Below w3.heap.size w3 w → w.cell? ⟨g3, j, none⟩ = some (.int .i64 (x : Int))) := fun w hw => (ho3.below hw).at j hlt nx1
        generalize (sg l' x).gen = gn at *
        generalize l'.set x ⟨gn, true, false, 4, 1⟩ = M at *
        have hji : (j : Int) < (m3 : Int) := by omega
        have hxi : (x : Int) < (n : Int) := by omega
        clear hx nx1 nx2 hch q1 q2 q3 HL
        go_wp2_with (first
          | (go_at_call 14; with_reducible refine (cN wr ht).mono ?_; rintro e w4 ⟨rfl, hb4⟩)
          | (go_at_call 22; with_reducible refine (cT w4 (ht.below hb4)).mono ?_; rintro e w5 ⟨g5, k5, rfl, ho5, hb5⟩;
             have bA := nextA' hb5 (.cells #[.int .i64 x, .int .i64 gn] 24); have bB := next hb4 bA; have bC := next hb bB;
             have d0 := Hat.out _ bB; have d1 := Hc3.out _ bC; obtain ⟨v0, v1, _, _⟩ := (bx_new w5 x gn).cells;
             have oA := ho5.below (below_more w5 (.cells #[.int .i64 x, .int .i64 gn] 24));
             have s5 := oA.tb.at (Below.refl _ _) hxn; have s51 := s5.c1; rw [HS.out] at s51; simp only [Nat.zero_add] at s51))
        go_quiet (fail)
        go_wp2
        go_roundw
        case rel => exact ⟨j + 1, some ⟨g5, 0, none⟩, k5, M, by omega, by go_num, rfl, ho5.cap_le.2, oA.tb.below (below_drewN (Below.refl _ _) _), HL2, below_drewN bC _⟩
        case measure => simp [intOf]; omega
      · obtain rfl : j = m3 := by omega
        have hch : chT l' = [] := by rw [HL.out.2, List.drop_of_length_le (by omega)]
        have cN := next_tb a n c l' wr ht hn
        rw [(nx_none hch).1, (nx_none hch).2] at cN
        have cT := fun w hw => take_none a n c l' flS w hw hc' HL.out.1 hch
        have cC : ∀ w, Tb w a n c l' → Calls Try.prog 20 #[.slice a n c] w fun e w' => ∃ bo c, e = .returned (.slice bo 0 c) ∧ Below w.heap.size w w' := fun w hw => by
          refine (chain_tb a n c l' w hw hn8).mono ?_
          rintro e w' ⟨bo, m, c, rfl, ho, hb⟩
          rw [hch] at ho
          obtain rfl : 0 = m := ho.len
          exact ⟨bo, c, rfl, hb⟩
        clear HL hch
        simp only [flS] at cT
        go_wp2_with (first
          | (go_at_call 14; with_reducible refine cN.mono ?_; rintro e w4 ⟨rfl, hb4⟩)
          | (go_at_call 22; with_reducible refine (cT w4 (ht.below hb4)).mono ?_; rintro e w5 ⟨rfl, hb5⟩; have bB := next hb4 (nextA' hb5 (.cells #[.int .i64 0, .int .i64 0] 24)))
          | (go_at_call 20; with_reducible refine (cC _ (ht.below bB)).mono ?_; rintro e w6 ⟨a6, k6, rfl, hb6⟩))
        go_ret
        exact ⟨rfl, next b3 (next (next hb bB) hb6)⟩
  · have cR : ∀ w, Below W.heap.size W w → Calls Try.prog 17 #[.slice ao n cap] w fun e w' => e = .returned (.bool false) ∧ Below w.heap.size w w' := fun w hb => by
      have := right_tb ao n cap l w (h.below hb) hn
      rwa [rightB_f hr] at this
    clear h hr
    go_enter Try.func8, Try.ntmps8
    go_wp2_with (first
      | (go_at_call 9; with_reducible refine (small_any _).mono ?_; rintro e w1 ⟨rfl, hb1⟩)
      | (go_at_call 17; with_reducible refine (cR _ hb1).mono ?_; rintro e w2 ⟨rfl, hb2⟩))
    go_ret
    exact ⟨rfl, next hb1 hb2⟩
end Go.Proofs.Ytijfiaggneeibaa
