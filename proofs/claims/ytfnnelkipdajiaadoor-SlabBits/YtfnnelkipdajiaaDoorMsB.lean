/- SlbCode · SmallSlb: these texts, one behind another. -/
import Derived.Test.YtfnnelkipdajiaaDoorSlbC
/- slab by its contracts: sbits_sl (SlbA), swrite_rd (SlbB), sread_own (SlbC). -/
/- joistlaw15.small, few by their contracts. -/
namespace Go.Proofs.YtfnnelkipdajiaaDoor
set_option maxRecDepth 100000
open Go.RowKit
set_option linter.unusedVariables false
set_option linter.unusedSimpArgs false
set_option maxRecDepth 100000

theorem slab_ok : SlbOk 0 [1] [[7]] 0 0 := by decide
theorem slab_b : (swL 0 [1] [[7]] 0 0).length = 256 ∧ (swL 0 [1] [[7]] 0 0).getD 0 0 = 1 ∧ (swL 0 [1] [[7]] 0 0).getD 8 0 = 2 ∧ (swL 0 [1] [[7]] 0 0).getD 48 0 = 7 := by decide +kernel
theorem slab_rd : rdC (swL 0 [1] [[7]] 0 0) = 0 ∧ rdL' (swL 0 [1] [[7]] 0 0) = [1] ∧ rdD (swL 0 [1] [[7]] 0 0) = [pdD 0 [7]] ∧ rdN (swL 0 [1] [[7]] 0 0) = 0 ∧ rdP (swL 0 [1] [[7]] 0 0) = 0 ∧ rsB (swL 0 [1] [[7]] 0 0) = true := by
  obtain ⟨h1, h2, h3, h4, h5, h6⟩ := rd_sw slab_ok
  obtain ⟨e1, e2, e3, e4, e5, e6⟩ := rs_t h6
  rw [e1, e2, e3, e4, e5, e6, h1, h2, h3, h4, h5]
  exact ⟨rfl, rfl, rfl, rfl, rfl, rfl⟩
theorem slab_bytes : Bytes (swL 0 [1] [[7]] 0 0) := swL_bytes (fun i hi z hz => by
  obtain rfl : i = 0 := by simp at hi; exact hi
  simp [da] at hz
  subst hz
  decide)
theorem slab_bits : bzN 0 [0, 2] = 5 ∧ bzE 0 [0, 2] = 0 := by decide
theorem belowN (w : World) (o : Obj) : Below w.heap.size w (w.alloc o) := (Below.refl _ _).alloc (Nat.le_refl _) o
theorem slab_sl1 (w : World) (x : Int) (k : Nat) (hk : w.heap.size = k) : Sl .u8 (w.alloc (.cells #[.int .u8 x] 5)) (some ⟨k, 0, none⟩) 1 1 [x] := by
  subst hk
  refine ⟨rfl, Nat.le_refl _, (by intro h; cases h), fun _ => ⟨w.heap.size, 0, rfl, by simp, fun i hi => ?_⟩⟩
  obtain rfl : i = 0 := by omega
  rw [cell_of_row _ w.heap.size 0 _ 5 (0, 0) (heap_alloc_new w _)]
  rfl
/-- '[]int{1}, [][]byte{{7}}'. -/
def slO (w : World) : World := ((w.alloc (.cells #[.int .i64 1] 3)).alloc (.cells #[.int .u8 7] 5)).alloc (.cells #[.slice (some ⟨w.heap.size + 1, 0, none⟩) 1 1] 26)
theorem slO_below (w : World) : Below w.heap.size w (slO w) := next (next (belowN w _) (belowN _ _)) (belowN _ _)
theorem slO_sl (w : World) : Sl .i64 (slO w) (some ⟨w.heap.size, 0, none⟩) 1 1 [1] := ((sl_int w w.heap.size 1 rfl).below (belowN _ _)).below (belowN _ _)
theorem slO_rd (w : World) : Rd (slO w) (some ⟨w.heap.size + 1 + 1, 0, none⟩) 1 1 (fun _ => some ⟨w.heap.size + 1, 0, none⟩) (fun _ => 1) (fun _ => 1) [[7]] := by
  refine ⟨rfl, Nat.le_refl _, (by intro h; cases h), fun _ => ⟨w.heap.size + 1 + 1, 0, rfl, by simp [slO], fun i hi => ?_⟩, fun i hi => ?_, fun i hi => ?_, fun i hi => by omega⟩
  · obtain rfl : i = 0 := by omega
    have := heap_alloc_new ((w.alloc (.cells #[.int .i64 1] 3)).alloc (.cells #[.int .u8 7] 5)) (.cells #[.slice (some ⟨w.heap.size + 1, 0, none⟩) 1 1] 26)
    rw [World.size_alloc, World.size_alloc] at this
    rw [cell_of_row (slO w) (w.heap.size + 1 + 1) 0 _ 26 (0, 0) this]
    rfl
  · obtain rfl : i = 0 := by omega
    exact (slab_sl1 _ 7 (w.heap.size + 1) (by simp)).below (belowN _ _)
  · obtain rfl : i = 0 := by omega
    intro z hz
    simp [da] at hz
    subst hz
    decide
theorem slab_write (w : World) (T : Cws w) : Calls Tryd.prog 11 #[.int .i64 0, .slice (some ⟨w.heap.size, 0, none⟩) 1 1, .slice (some ⟨w.heap.size + 1 + 1, 0, none⟩) 1 1, .int .i64 0, .int .i64 0] (slO w) fun e w' => ∃ g c, e = .returned (.tuple #[.slice (some ⟨g, 0, none⟩) 256 c, .int .i64 0]) ∧ (Sl .u8 w' (some ⟨g, 0, none⟩) 256 c (swL 0 [1] [[7]] 0 0) ∧ w'.cell? ⟨g, 0, none⟩ = some (.int .u8 1) ∧ w'.cell? ⟨g, 8, none⟩ = some (.int .u8 2) ∧ w'.cell? ⟨g, 48, none⟩ = some (.int .u8 7)) ∧ Below w.heap.size w w' := by
  refine (swrite_rd 0 _ 1 1 [1] _ 1 1 _ _ _ [[7]] 0 0 (slO w) (slO_sl w) (slO_rd w) (by omega) (by omega) (T.kept (slO_below w))).mono ?_
  rintro e w' ⟨xo, xm, xc, rfl, ho, hb⟩
  obtain ⟨b1, b2, b3, b4⟩ := slab_b
  have hl := ho.len
  rw [b1] at hl
  subst hl
  obtain ⟨g, c, e⟩ := own_shape ho.row (by omega)
  simp only [Value.slice.injEq] at e
  obtain ⟨rfl, _, rfl⟩ := e
  rw [(sw_t slab_ok).1]
  exact ⟨g, xc, rfl, ⟨ho.sl, ho.at 0 (by omega) b2, ho.at 8 (by omega) b3, ho.at 48 (by omega) b4⟩, next (slO_below w) hb⟩
theorem slab_read (g c : Nat) (w : World) (T : Cws w) (h : Sl .u8 w (some ⟨g, 0, none⟩) 256 c (swL 0 [1] [[7]] 0 0)) : Calls Tryd.prog 17 #[.slice (some ⟨g, 0, none⟩) 256 c] w fun e w' => ∃ cg cc dg dc a ac, e = .returned (.tuple #[.int .i64 0, .slice (some ⟨cg, 0, none⟩) 1 cc, .slice (some ⟨dg, 0, none⟩) 1 dc, .int .i64 0, .int .i64 0, .bool true]) ∧ (w'.cell? ⟨cg, 0, none⟩ = some (.int .i64 1) ∧ w'.cell? ⟨dg, 0, none⟩ = some (.slice a 16 ac)) ∧ Below w.heap.size w w' := by
  refine (sread_own _ 256 c _ w h slab_bytes (by omega) T).mono ?_
  obtain ⟨e1, e2, e3, e4, e5, e6⟩ := slab_rd
  rw [e1, e2, e3, e4, e5, e6]
  rintro e w' ⟨co, cm, cc, dt, dm, dc, A, N, C, rfl, ho, hr, hb⟩
  obtain rfl : 1 = cm := ho.len
  obtain rfl : 1 = dm := hr.len
  obtain ⟨cg, cc', e⟩ := own_shape ho.row (by omega)
  simp only [Value.slice.injEq] at e
  obtain ⟨rfl, _, rfl⟩ := e
  obtain ⟨dg, dc', e⟩ := own_shape hr.row (by omega)
  simp only [Value.slice.injEq] at e
  obtain ⟨rfl, _, rfl⟩ := e
  have h1 := hr.row.cellAt 0 (by omega)
  have h2 := (hr.own 0 (by omega)).len
  have h3 : (da [pdD 0 [7]] 0).length = 16 := by decide +kernel
  rw [h3] at h2
  refine ⟨cg, cc, dg, dc, A 0, C 0, rfl, ⟨ho.at 0 (by omega) rfl, ?_⟩, hb⟩
  rw [h1]
  simp [sliV, ← h2]
set_option maxHeartbeats 2000000 in
theorem smallS_any (w : World) (T : Cws w) : Calls Tryd.prog 8 #[] w fun e w' => e = .returned (.bool true) ∧ Below w.heap.size w w' := by
  have cW := slab_write w T
  simp only [slO] at cW
  have cB : ∀ w1, Below w.heap.size w w1 → Calls Tryd.prog 15 #[.int .i64 0, .slice (some ⟨w1.heap.size, 0, none⟩) 2 2] (w1.alloc (.cells #[.int .i64 0, .int .i64 2] 3)) fun e w' => e = .returned (.tuple #[.int .i64 5, .int .i64 0]) ∧ Below w1.heap.size w1 w' := fun w1 hb => by
    have hs : Sl .i64 (w1.alloc (.cells #[.int .i64 0, .int .i64 2] 3)) (some ⟨w1.heap.size, 0, none⟩) 2 2 [0, 2] := by
      refine ⟨rfl, Nat.le_refl _, (by intro h; cases h), fun _ => ⟨_, _, rfl, by simp, fun i hi => ?_⟩⟩
      have e := cell_of_row (w1.alloc (.cells #[.int .i64 0, .int .i64 2] 3)) w1.heap.size i _ 3 (0, 0) (heap_alloc_new w1 _)
      rcases (show i = 0 ∨ i = 1 by omega) with rfl | rfl
      · exact e
      · exact e
    have h1 := sbits_sl 0 _ 2 2 [0, 2] _ hs (by omega) (T.kept (next hb (belowN w1 _)))
    rw [slab_bits.1, slab_bits.2] at h1
    exact h1.mono fun e w' ⟨q1, q2⟩ => ⟨q1, next (belowN w1 _) q2⟩
  have hT : ∀ w1, Below w.heap.size w w1 → Cws w1 := fun w1 hb => T.kept hb
  clear T
  go_enter Tryd.func8, Tryd.ntmps8
  go_wp2_with (first
    | (go_at_call 11; with_reducible refine cW.mono ?_; rintro e w1 ⟨g, c, rfl, ⟨k0, k1, k2, k3⟩, hb1⟩; have cR := slab_read g c w1 (hT w1 hb1) k0; have hgl := World.block_lt_of_cell? w1 _ k1; clear cW k0)
    | (go_at_call 17; with_reducible refine cR.mono ?_; rintro e w2 ⟨cg, cc, dg, dc, a, ac, rfl, ⟨q1, q2⟩, hb2⟩; have cB2 := cB w2 (next hb1 hb2); have r1 := (hb2.cell hgl).trans k1; have r2 := (hb2.cell (p := ⟨g, 8, none⟩) hgl).trans k2; have r3 := (hb2.cell (p := ⟨g, 48, none⟩) hgl).trans k3; have ql1 := World.block_lt_of_cell? w2 _ q1; have ql2 := World.block_lt_of_cell? w2 _ q2; clear cR cB)
    | (go_at_call 15; with_reducible refine cB2.mono ?_; rintro e w3 ⟨rfl, hb3⟩; have u1 := (hb3.cell (p := ⟨g, 0, none⟩) (Nat.lt_of_lt_of_le hgl hb2.size)).trans r1; have u2 := (hb3.cell (p := ⟨g, 8, none⟩) (Nat.lt_of_lt_of_le hgl hb2.size)).trans r2; have u3 := (hb3.cell (p := ⟨g, 48, none⟩) (Nat.lt_of_lt_of_le hgl hb2.size)).trans r3; have u4 := (hb3.cell ql1).trans q1; have u5 := (hb3.cell ql2).trans q2; have hb13 := next (next hb1 hb2) hb3; clear cB2))
  go_ret
  exact ⟨rfl, hb13⟩
/-- Data short enough to be played. -/
def FewS (ds : List (List Int)) : Prop := (∀ i, i < ds.length → (da ds i).length ≤ 4096) ∧ ds.length ≤ 60
instance (ds : List (List Int)) : Decidable (FewS ds) := by unfold FewS; exact inferInstance
theorem fewS_rd (bo : Option Addr) (m cap' : Nat) (A : Nat → Option Addr) (N C : Nat → Nat) (ds : List (List Int)) (w : World) (hd : Rd w bo m cap' A N C ds) (hm : m ≤ 9223372036854775807) :
    Calls Tryd.prog 9 #[.slice bo m cap'] w fun e w' => e = .returned (.bool (decide (FewS ds))) ∧ w = w' := by
  have hl := hd.len
  go_enter Tryd.func9, Tryd.ntmps9
  go_wp2
  go_loop [3] (fun s => ∃ k : Nat, k ≤ m ∧ s = .int .i64 k ∧ Hid (∀ i, i < k → (da ds i).length ≤ 4096)) (fun s => m - (intOf s).toNat)
  case atStart => exact ⟨0, Nat.zero_le _, rfl, hid (fun i hi => absurd hi (by omega))⟩
  case round =>
    obtain ⟨k, hk, rfl, HK⟩ := hrel
    by_cases hlt : k < m
    · obtain ⟨b, off, rfl, hbl, hc⟩ := hd.here (by omega)
      have c0 := hc k hlt
      have hr := (hd.row k hlt).len
      have hki : (k : Int) < (m : Int) := by omega
      have HN : Hid (¬ N k ≤ 4096 → ¬ FewS ds) := hid (fun h1 h2 => h1 (by rw [← hr]; exact h2.1 k (by omega)))
      have HY : Hid (N k ≤ 4096 → ∀ i, i < k + 1 → (da ds i).length ≤ 4096) := hid (fun h1 i hi => by
        by_cases e : i < k
        · exact HK.out i e
        · obtain rfl : i = k := by omega
          rw [hr]; exact h1)
      clear hc hd HK hr
      generalize A k = ak at *
      generalize N k = nk at *
      generalize C k = ck at *
      by_cases h4 : nk ≤ 4096
      · have h4' : ¬ ((4096 : Int) < (nk : Int)) := by omega
        have HY' := hid (HY.out h4)
        clear HY HN
        go_wp2
        go_round
        case rel => exact ⟨k + 1, by omega, by go_num, HY'⟩
        case measure => simp [intOf]; omega
      · have h4' : (4096 : Int) < (nk : Int) := by omega
        have HN' := hid (HN.out h4)
        clear HY HN
        go_wp2
        go_ret
        exact ⟨ret_bool (decide_eq_false HN'.out).symm, rfl⟩
    · obtain rfl : k = m := by omega
      have hki : ¬ ((k : Int) < (k : Int)) := by omega
      by_cases h60 : k ≤ 60
      · have h60' : (k : Int) ≤ 60 := by omega
        have HF : Hid (FewS ds) := hid ⟨fun i hi => HK.out i (by omega), by omega⟩
        go_wp2
        go_ret
        exact ⟨ret_bool (by rw [decide_eq_true HF.out]), rfl⟩
      · have h60' : ¬ ((k : Int) ≤ 60) := by omega
        have HF : Hid (¬ FewS ds) := hid (fun h => by have := h.2; omega)
        go_wp2
        go_ret
        exact ⟨ret_bool (by rw [decide_eq_false HF.out]), rfl⟩
end Go.Proofs.YtfnnelkipdajiaaDoor
