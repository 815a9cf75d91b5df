/- pages' placeSmall and Place by their contracts. -/
import Derived.Test.YtlghhhhgfnnjgabDoorHpF
import Derived.Test.YtlghhhhgfnnjgabDoorPzB
namespace Go.Proofs.YtlghhhhgfnnjgabDoor
set_option maxRecDepth 100000
open Go.RowKit
set_option linter.unusedVariables false
set_option linter.unusedSimpArgs false
set_option maxRecDepth 100000

/-- A word of a cell is taken just if an object begins there. -/
theorem tk_oc {N : Nat} {l : List Spn} {s : HpS} (hr : RightO N l) (h : HpI N l s) {k j : Nat} (hj : 4 ≤ j ∧ j < 32) : s.tk k j = ocB l (32 * (k : Int) + (j : Int)) := by
  have key : s.tk k j = true ↔ ocB l (32 * (k : Int) + (j : Int)) = true := by
    rw [h.tk, ocB_iff]
    constructor
    · rintro ⟨o, ho, ⟨h1, h2⟩, h3⟩
      have hin := hr.lie o ho
      have h0 := hin.len
      unfold wdO at h3
      by_cases hs : o.sz ≤ 120
      · rw [if_pos hs] at h3
        rw [pgK_small hs] at h2
        unfold pgA at h1 h2
        exact ⟨o, ho, by omega⟩
      · rw [if_neg hs] at h3
        omega
    · rintro ⟨o, ho, e⟩
      have hin := hr.lie o ho
      have hg := hin.pgk
      have hA : pgA o = k := by unfold pgA; rw [e]; omega
      refine ⟨o, ho, ⟨by omega, by omega⟩, ?_⟩
      have hs : o.sz ≤ 120 := Decidable.byContradiction fun hs => by
        have := (hin.large hs).2.2.1
        omega
      unfold wdO
      rw [if_pos hs]
      omega
  cases e1 : s.tk k j <;> cases e2 : ocB l (32 * (k : Int) + (j : Int)) <;> simp_all
theorem tk_cw {N : Nat} {l : List Spn} {s : HpS} (hr : RightO N l) (h : HpI N l s) {c k i : Nat} (hi : (i : Int) < ceN c) : s.tk k (ctN c i).toNat = ocB l (cwN c k i) := by
  have hct := ctN_in (c := c) (k := i) ⟨by omega, hi⟩
  have := tk_oc hr h (k := k) (j := (ctN c i).toNat) ⟨by omega, by omega⟩
  rw [this]
  unfold cwN
  congr 1
  omega
theorem full_no {N : Nat} {l : List Spn} {s : HpS} (hr : RightO N l) (h : HpI N l s) {c M : Nat} (hc : c < 6) (hM : ceN c = M) {k : Nat} (hk : k ≤ N) (hf : ∀ q, q < k → s.kd q = c → FullC s c q M) : ∀ y, y < 32 * k → Cd1 l c y = false := fun y hy => by
  by_cases e : kdL l ((y / 32 : Nat) : Int) = c
  · have hq := hf (y / 32) (by omega) (by rw [h.kd _ (by omega)]; exact e)
    refine cd1_done (i := y / 32) hc (fun i hi => ?_) rfl
    rw [← tk_cw hr h hi]
    exact hq i (by rw [hM] at hi; omega)
  · exact cd1_other e rfl
theorem free_no {N : Nat} {l : List Spn} {s : HpS} (hr : RightO N l) (h : HpI N l s) {q j : Nat} (hq : q < N) (hk : s.kd q = -1) : s.tk q j = false := by
  rw [h.kd q hq] at hk
  exact h.no fun o ho hH => absurd hH ((kdL_neg hr).1 hk o ho)
theorem free_all {N : Nat} {l : List Spn} {s : HpS} (hr : RightO N l) (h : HpI N l s) {c M : Nat} (hM : 1 ≤ M) {k : Nat} (hk : k ≤ N) (hf : ∀ q, q < k → s.kd q = -1 → FullC s c q M) : ∀ q : Nat, q < k → kdL l (q : Nat) ≠ -1 := fun q hq e => by
  have hkd : s.kd q = -1 := by rw [h.kd q (by omega)]; exact e
  have := hf q hq hkd 0 (by omega)
  rw [free_no hr h (by omega) hkd] at this
  cases this
/-- Both answers of freeCell together. -/
theorem fc_one {N : Nat} {l : List Spn} {s : HpS} {z : Int} {M : Nat} (hr : RightO N l) (h : HpI N l s) (hz : 1 ≤ z ∧ z ≤ 120) (hM : ceN (clN z) = M) {x1 : Int} {b1 : Bool} (h1 : FcR N s (clN z) (clN z) M x1 b1) (hb : b1 = true) : pcN N l z = x1 ∧ pcB N l z = true := by
  have hc := clN_lt z
  have hM1 : 1 ≤ M := by have := (cls_in (c := (clN z : Int)) ⟨by omega, by omega⟩); omega
  · rcases h1 with ⟨_, k, i, hk, hi, hkd, htk, hfu, hall, rfl⟩ | ⟨e, _⟩
    · have hi' : (i : Int) < ceN (clN z) := by rw [hM]; omega
      obtain ⟨e1, e2⟩ := pc_first hr hz (cd1_found hc hk hi' (by rw [← h.kd k hk]; exact hkd) (by rw [← tk_cw hr h hi']; exact htk) (fun j hj => by
        have hj' : (j : Int) < ceN (clN z) := by omega
        rw [← tk_cw hr h hj']; exact hfu j hj) (full_no hr h hc hM (by omega) hall))
      refine ⟨?_, e2⟩
      rw [e1]
      have := (cwN_ok hc hi' hk).1
      unfold cwN at *
      omega
    · rw [hb] at e; cases e
theorem fc_two {N : Nat} {l : List Spn} {s : HpS} {z : Int} {M : Nat} (hr : RightO N l) (h : HpI N l s) (hz : 1 ≤ z ∧ z ≤ 120) (hM : ceN (clN z) = M) {x1 x2 : Int} {b1 b2 : Bool} (h1 : FcR N s (clN z) (clN z) M x1 b1) (h2 : FcR N s (-1) (clN z) M x2 b2) (hb : b1 = false) : pcN N l z = x2 ∧ pcB N l z = b2 := by
  have hc := clN_lt z
  have hM1 : 1 ≤ M := by have := (cls_in (c := (clN z : Int)) ⟨by omega, by omega⟩); omega
  · have hn1 : lsX (32 * N) (Cd1 l (clN z)) = none := by
      rcases h1 with ⟨e, _⟩ | ⟨_, _, hall⟩
      · rw [hb] at e; cases e
      · exact lsX_none.2 (full_no hr h hc hM (Nat.le_refl _) hall)
    rcases h2 with ⟨rfl, k, i, hk, hi, hkd, htk, hfu, hall, rfl⟩ | ⟨rfl, rfl, hall⟩
    · have hi0 : i = 0 := by
        refine Decidable.byContradiction fun h0 => ?_
        have := hfu 0 (by omega)
        rw [free_no hr h hk hkd] at this
        cases this
      subst hi0
      obtain ⟨e1, e2⟩ := pc_second hr hz hn1 (cd2_found hk (by rw [← h.kd k hk]; exact hkd) (free_all hr h hM1 (by omega) hall))
      refine ⟨?_, e2⟩
      rw [e1]
      have := (ctN_0 (c := (clN z : Int)) ⟨by omega, by omega⟩).2
      have e : ctN (clN z) ((0 : Nat) : Int) = 4 := this
      rw [e]
      omega
    · exact pc_nowhere hr hz hn1 (cd2_none (free_all hr h hM1 (Nat.le_refl _) hall))
set_option maxHeartbeats 1000000 in
theorem placeSmall_hp (b N : Nat) (s : HpS) (l : List Spn) (z : Int) (w : World) (T : Cws w) (h : Hpb w b N s) (hN : N ≤ 64) (hr : RightO N l) (hI : HpI N l s) (hz : 1 ≤ z ∧ z ≤ 120) :
    Calls Tryd.prog 12 #[.pointer (some ⟨b, 0, none⟩), .int .i64 (clN z : Int)] w fun e w' => e = .returned (.tuple #[.int .i64 (pcN N l z), .bool (pcB N l z)]) ∧ Below w.heap.size w w' := by
  have hc := clN_lt z
  obtain ⟨M, hM⟩ : ∃ M : Nat, ceN (clN z) = M := ⟨(ceN (clN z)).toNat, by have := (cls_in (c := (clN z : Int)) ⟨by omega, by omega⟩); omega⟩
  have c1 := freeCell_hp b N s (clN z) (clN z) M w T h hN hc hM
  have c2 := fun w1 (hb : Below w.heap.size w w1) => freeCell_hp b N s (-1) (clN z) M w1 (T.kept hb) (h.kept hb) hN hc hM
  have HA : Hid (∀ x1, FcR N s (clN z) (clN z) M x1 true → pcN N l z = x1 ∧ pcB N l z = true) := hid (fun x1 h1 => fc_one hr hI hz hM h1 rfl)
  have HB : Hid (∀ x1 x2 b2, FcR N s (clN z) (clN z) M x1 false → FcR N s (-1) (clN z) M x2 b2 → pcN N l z = x2 ∧ pcB N l z = b2) := hid (fun x1 x2 b2 h1 h2 => fc_two hr hI hz hM h1 h2 rfl)
  clear T h hr hI hz hc hM
  generalize clN z = cc at *
  generalize pcN N l z = an at *
  generalize pcB N l z = ab at *
  go_enter Tryd.func12, Tryd.ntmps12
  go_wp2_with (first
    | (go_at_call 16; with_reducible refine c1.mono ?_; rintro e w1 ⟨x1, b1, rfl, hf1, hb1⟩; have HF1 := hid hf1; clear hf1)
    | (go_at_call 16; with_reducible refine (c2 _ hb1).mono ?_; rintro e w2 ⟨x2, b2, rfl, hf2, hb2⟩; have HF2 := hid hf2; clear hf2))
  · obtain rfl : b1 = true := by assumption
    go_ret2
    obtain ⟨e1, e2⟩ := HA.out _ HF1.out
    exact ⟨by rw [e1, e2]; rfl, hb1⟩
  · obtain rfl : b1 = false := by assumption
    go_ret2
    obtain ⟨e1, e2⟩ := HB.out _ _ _ HF1.out HF2.out
    exact ⟨by rw [e1, e2]; rfl, next hb1 hb2⟩
theorem LaidH.t {P : Int} {l : List Spn} {M : Nat} {s : HpS} {b : Bool} (h : LaidH P l M s b) (hr : RightO P l) : b = true ∧ (M : Int) = P ∧ HpI M l s := by
  obtain ⟨_, ⟨_, h1, h2, h3⟩ | ⟨hn, _⟩⟩ := h
  · exact ⟨h1, h2, h3⟩
  · exact absurd hr hn
theorem LaidH.f {P : Int} {l : List Spn} {M : Nat} {s : HpS} {b : Bool} (h : LaidH P l M s b) (hr : ¬ RightO P l) : b = false := by
  obtain ⟨_, ⟨hp, _⟩ | ⟨_, h1, _⟩⟩ := h
  · exact absurd hp hr
  · exact h1
theorem LaidH.pos {l : List Spn} {N M : Nat} {s : HpS} {b : Bool} (h : LaidH (N : Int) l M s b) (hr : RightO N l) : b = true ∧ M = N ∧ HpI N l s := by
  obtain ⟨h1, h2, h3⟩ := h.t hr
  have e : M = N := by omega
  subst e
  exact ⟨h1, rfl, h3⟩
theorem place_wrong (P : Int) (ao : Option Addr) (n cap : Nat) (l : List Spn) (z : Int) (w : World) (T : Cws w) (h : Ps w ao n cap l) (hn : n ≤ 8796093022208) (hr : ¬ RightO P l) :
    Calls Tryd.prog 8 #[.int .i64 P, .slice ao n cap, .int .i64 z] w fun e w' => e = .returned (.tuple #[.int .i64 0, .bool false]) ∧ Below w.heap.size w w' := by
  have cL := lay_ps P ao n cap l w T h hn
  have HR : Hid (∀ M s b, LaidH P l M s b → b = false) := hid (fun M s b h => h.f hr)
  have hz := hp_zero
  have hz1 := hpC_size 0 hp0
  have hz2 := hpC_some 0 hp0
  clear h T hr
  go_enter Tryd.func8, Tryd.ntmps8
  go_wp2_with (go_at_call 9; with_reducible refine cL.mono ?_; rintro e w1 ⟨M, s, b, rfl, hL, hb1⟩; obtain rfl := HR.out M s b hL; have hst := hp_laid w1 M s; have hsz := hpC_size M s; have hbA := hb1.alloc hb1.size (.cells (hpC M s) 42); clear hL)
  go_ret2
  exact ⟨rfl, hbA⟩
set_option maxHeartbeats 2000000 in
theorem place_right (N : Nat) (hN : N ≤ 64) (ao : Option Addr) (n cap : Nat) (l : List Spn) (z : Int) (w : World) (T : Cws w) (h : Ps w ao n cap l) (hn : n ≤ 8796093022208) (hr : RightO N l) :
    Calls Tryd.prog 8 #[.int .i64 (N : Int), .slice ao n cap, .int .i64 z] w fun e w' => e = .returned (.tuple #[.int .i64 (pcN N l z), .bool (pcB N l z)]) ∧ Below w.heap.size w w' := by
  have cL := lay_ps N ao n cap l w T h hn
  have HR : Hid (∀ M s b, LaidH (N : Int) l M s b → b = true ∧ M = N ∧ HpI N l s) := hid (fun M s b h => h.pos hr)
  have hz := hp_zero
  have hz1 := hpC_size 0 hp0
  have hz2 := hpC_some 0 hp0
  have HT := hid T
  have HRR := hid hr
  clear h T hr
  by_cases hs : 1 ≤ z ∧ z ≤ 120
  · have cO : ∀ w1, Below w.heap.size w w1 → Calls Tryd.prog 11 #[.int .i64 z] w1 fun e w' => e = .returned (.tuple #[.int .i64 (clN z : Int), .bool true]) ∧ w1 = w' := fun w1 hb => by
      have := of_any z w1 (HT.out.kept hb)
      rwa [cl_b hs] at this
    have cP : ∀ w1 M s b, Below w.heap.size w w1 → LaidH (N : Int) l M s b → Calls Tryd.prog 12 #[.pointer (some ⟨w1.heap.size, 0, none⟩), .int .i64 (clN z : Int)] (w1.alloc (.cells (hpC M s) 42)) fun e w' => e = .returned (.tuple #[.int .i64 (pcN N l z), .bool (pcB N l z)]) ∧ Below w.heap.size w w' := fun w1 M s b hb hL => by
      obtain ⟨_, rfl, hi⟩ := HR.out M s b hL
      refine (placeSmall_hp w1.heap.size M s l z _ (HT.out.kept (hb.alloc hb.size _)) (hpb_new w1 M s) hN HRR.out hi hs).mono ?_
      rintro e w' ⟨rfl, hb2⟩
      exact ⟨rfl, next (hb.alloc hb.size _) hb2⟩
    have HF : Hid (∀ M s b, LaidH (N : Int) l M s b → b = true) := hid (fun M s b h => (HR.out M s b h).1)
    clear HT HRR HR hs
    generalize pcN N l z = an at *
    generalize pcB N l z = ab at *
    go_enter Tryd.func8, Tryd.ntmps8
    go_wp2_with (first
      | (go_at_call 9; with_reducible refine cL.mono ?_; rintro e w1 ⟨M, s, b, rfl, hL, hb1⟩; obtain rfl := HF.out M s b hL; have hst := hp_laid w1 M s; have hsz := hpC_size M s; have hbA := hb1.alloc hb1.size (.cells (hpC M s) 42); have cQ := cP w1 M s true hb1 hL; clear hL)
      | (go_at_call 11; with_reducible refine (cO _ hbA).mono ?_; rintro e w' ⟨rfl, rfl⟩)
      | (go_at_call 12; with_reducible refine cQ.mono ?_; rintro e w2 ⟨rfl, hb2⟩))
    go_ret2
    exact ⟨rfl, hb2⟩
  · have cO : ∀ w1, Below w.heap.size w w1 → Calls Tryd.prog 11 #[.int .i64 z] w1 fun e w' => e = .returned (.tuple #[.int .i64 (clN z : Int), .bool false]) ∧ w1 = w' := fun w1 hb => by
      have := of_any z w1 (HT.out.kept hb)
      rwa [(cl_f hs).2] at this
    have HF : Hid (∀ M s b, LaidH (N : Int) l M s b → b = true) := hid (fun M s b h => (HR.out M s b h).1)
    by_cases hg : 120 < z ∧ z ≤ 2048
    · have cG : ∀ w1, Below w.heap.size w w1 → Calls Tryd.prog 13 #[.int .i64 z] w1 fun e w' => e = .returned (.tuple #[.int .i64 (pgN z), .int .i64 0]) ∧ w1 = w' := fun w1 hb => by
        have := pages_any z w1 (HT.out.kept hb)
        rwa [(pg_t hg).2] at this
      obtain ⟨e1, e2⟩ := pc_big HRR.out hg
      rw [e1, e2]
      have hbt := btN_rg (l := l) HRR.out.rng (pgN z)
      have cK : ∀ w1 M s b, Below w.heap.size w w1 → LaidH (N : Int) l M s b → Calls Tryd.prog 10 #[.pointer (some ⟨w1.heap.size, 0, none⟩)] (w1.alloc (.cells (hpC M s) 42)) fun e w' => ∃ bo m c, e = .returned (.slice bo m c) ∧ Sl .i64 w' bo m c (kzN N l) ∧ m ≤ 1048576 ∧ Below w.heap.size w w' := fun w1 M s b hb hL => by
        obtain ⟨_, rfl, hi⟩ := HR.out M s b hL
        refine (kinds_hp w1.heap.size M s _ (hpb_new w1 M s) hN).mono ?_
        rintro e w' ⟨bo, m, c, rfl, ho, hb2⟩
        rw [ksL_all hi] at ho
        refine ⟨bo, m, c, rfl, ho.sl, ?_, next (hb.alloc hb.size _) hb2⟩
        have := ho.len
        rw [kzN_len] at this
        omega
      have cB : ∀ w1 bo m c, Sl .i64 w1 bo m c (kzN N l) → m ≤ 1048576 → Calls Tryd.prog 6 #[.slice bo m c, .int .i64 (pgN z)] w1 fun e w' => e = .returned (.tuple #[.int .i64 (btN (kzN N l) (pgN z)), .bool (btB (kzN N l) (pgN z))]) ∧ Below w1.heap.size w1 w' := fun w1 bo m c hs hm => bestK_sl bo m c _ (pgN z) w1 hs hm
      clear HT HRR HR hs e1 e2 hg
      generalize btN (kzN N l) (pgN z) = bn at *
      generalize btB (kzN N l) (pgN z) = bb at *
      generalize kzN N l = KZ at *
      generalize pgN z = pn at *
      have x1 : IntKind.i64.wrap (bn * 32) = bn * 32 := IntWalk.i64_in _ ⟨by omega, by omega⟩
      have x2 : 32 * bn = bn * 32 := by omega
      have X2 := hid x2
      clear x2
      go_enter Tryd.func8, Tryd.ntmps8
      go_wp2_with (first
        | (go_at_call 9; with_reducible refine cL.mono ?_; rintro e w1 ⟨M, s, b, rfl, hL, hb1⟩; obtain rfl := HF.out M s b hL; have hst := hp_laid w1 M s; have hsz := hpC_size M s; have hbA := hb1.alloc hb1.size (.cells (hpC M s) 42); have cQ := cK w1 M s true hb1 hL; clear hL)
        | (go_at_call 11; with_reducible refine (cO _ hbA).mono ?_; rintro e w' ⟨rfl, rfl⟩)
        | (go_at_call 13; with_reducible refine (cG _ hbA).mono ?_; rintro e w' ⟨rfl, rfl⟩)
        | (go_at_call 10; with_reducible refine cQ.mono ?_; rintro e w2 ⟨bo, m, c, rfl, hsl, hm, hb2⟩; have cBB := cB w2 bo m c hsl hm; clear hsl)
        | (go_at_call 6; with_reducible refine cBB.mono ?_; rintro e w3 ⟨rfl, hb3⟩; have HB3 := hid (next hb2 hb3)))
      go_ret2
      exact ⟨by rw [X2.out]; rfl, HB3.out⟩
    · have cG : ∀ w1, Below w.heap.size w w1 → Calls Tryd.prog 13 #[.int .i64 z] w1 fun e w' => e = .returned (.tuple #[.int .i64 (pgN z), .int .i64 1]) ∧ w1 = w' := fun w1 hb => by
        have := pages_any z w1 (HT.out.kept hb)
        rwa [(pg_f hg).2] at this
      obtain ⟨e1, e2⟩ := pc_f (pc_out (P := N) (l := l) (n := z) (by omega))
      rw [e1, e2]
      clear HT HRR HR hs e1 e2 hg
      go_enter Tryd.func8, Tryd.ntmps8
      go_wp2_with (first
        | (go_at_call 9; with_reducible refine cL.mono ?_; rintro e w1 ⟨M, s, b, rfl, hL, hb1⟩; obtain rfl := HF.out M s b hL; have hst := hp_laid w1 M s; have hsz := hpC_size M s; have hbA := hb1.alloc hb1.size (.cells (hpC M s) 42); clear hL)
        | (go_at_call 11; with_reducible refine (cO _ hbA).mono ?_; rintro e w' ⟨rfl, rfl⟩)
        | (go_at_call 13; with_reducible refine (cG _ hbA).mono ?_; rintro e w' ⟨rfl, rfl⟩))
      go_ret2
      exact ⟨rfl, hbA⟩
theorem place_ps (P : Int) (ao : Option Addr) (n cap : Nat) (l : List Spn) (z : Int) (w : World) (T : Cws w) (h : Ps w ao n cap l) (hn : n ≤ 8796093022208) :
    Calls Tryd.prog 8 #[.int .i64 P, .slice ao n cap, .int .i64 z] w fun e w' => e = .returned (.tuple #[.int .i64 (pcN P l z), .bool (pcB P l z)]) ∧ Below w.heap.size w w' := by
  by_cases hr : RightO P l
  · obtain ⟨N, rfl⟩ := Int.eq_ofNat_of_zero_le hr.rng.1
    exact place_right N (by have := hr.rng; omega) ao n cap l z w T h hn hr
  · obtain ⟨e1, e2⟩ := pc_f (pc_wrong (n := z) hr)
    rw [e1, e2]
    exact place_wrong P ao n cap l z w T h hn hr
end Go.Proofs.YtlghhhhgfnnjgabDoor
