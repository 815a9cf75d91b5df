/- joistlaw11.small, few by their contracts. -/
import Derived.Test.YtclkooaepfedaaaDoorMhC
namespace Go.Proofs.YtclkooaepfedaaaDoor
set_option maxRecDepth 100000
open Go.RowKit
set_option linter.unusedVariables false
set_option linter.unusedSimpArgs false
set_option maxRecDepth 100000

def smB : List Blk := [⟨4, 4, 0⟩]
def smW : List Int := [256, 9, 0, 256, 257, 7, 0, 257, 256, 0, 1, 256]
def smH : List Int := [1, 0, 0, 0, 0, 0, 0]
theorem sm_right : RightP 0 12 (spL smB) := by decide
theorem sm_hold : HoldB smB [[7]] := by
  refine ⟨rfl, fun i hi => ?_, fun i j hij hj => ?_⟩
  · obtain rfl : i = 0 := by simp [smB] at hi; omega
    exact ⟨by decide, by decide, by decide⟩
  · simp [smB] at hj; omega
theorem sm_heap : HeapB 0 12 smB [[7]] (ofL smW) := by
  have := heap_write sm_right sm_hold
  have e : puts (puts (List.replicate (8 * ((12 : Int) - 0).toNat) 0) (usW 0 smB [[7]] smB.length)) (frW 0 (gapsL 0 12 (spL smB))) = ofL smW := by decide +kernel
  rwa [e] at this
theorem sm_heads : hdL (gapsL 0 12 (spL smB)) = smH := by decide +kernel
theorem sm_is : IsHeap 0 12 (ofL smW) smH smB := ⟨_, sm_heap, sm_heads.symm⟩
theorem below_new (w : World) (o : Obj) : Below w.heap.size w (w.alloc o) := (Below.refl _ _).alloc (Nat.le_refl _) o
theorem lits_sl (w : World) (xs : List Int) (cs : Array Value) (n : Nat) (hc : cs = (xs.map (Value.int .i64)).toArray) (hn : xs.length = n) : Sl .i64 (w.alloc (.cells cs 3)) (some ⟨w.heap.size, 0, none⟩) n n xs := by
  subst hc
  refine ⟨hn, Nat.le_refl _, (by intro h; cases h), fun _ => ⟨w.heap.size, 0, rfl, by simp, fun i hi => ?_⟩⟩
  rw [Nat.zero_add, cell_of_row _ w.heap.size i _ 3 (0, 0) (heap_alloc_new w _)]
  simp [List.getD, List.getElem?_eq_getElem (show i < xs.length by omega)]
theorem lit_by (w : World) (x : Int) (k : Nat) (hk : w.heap.size = k) : Sl .u8 (w.alloc (.cells #[.int .u8 x] 5)) (some ⟨k, 0, none⟩) 1 1 [x] := by
  subst hk
  refine ⟨rfl, Nat.le_refl _, (by intro h; cases h), fun _ => ⟨w.heap.size, 0, rfl, by simp, fun i hi => ?_⟩⟩
  obtain rfl : i = 0 := by omega
  rw [cell_of_row _ w.heap.size 0 _ 5 (0, 0) (heap_alloc_new w _)]
  rfl
/-- '[]api.Block{{At: 4, Size: 4}}, [][]byte{{7}}'. -/
def smO (w : World) : World := ((w.alloc (.cells #[.int .i64 4, .int .i64 4, .int .i64 0] 43)).alloc (.cells #[.int .u8 7] 5)).alloc (.cells #[.slice (some ⟨w.heap.size + 1, 0, none⟩) 1 1] 26)
theorem smO_below (w : World) : Below w.heap.size w (smO w) := next (next (below_new w _) (below_new _ _)) (below_new _ _)
theorem smO_bs (w : World) : Bs (smO w) (some ⟨w.heap.size, 0, none⟩) 1 1 smB :=
  ((bs_one w ⟨4, 4, 0⟩ ⟨by unfold Rg; decide, by unfold Rg; decide, by unfold Rg; decide⟩).below (below_new _ _)).below (below_new _ _)
theorem smO_rd (w : World) : Rd (smO w) (some ⟨w.heap.size + 1 + 1, 0, none⟩) 1 1 (fun _ => some ⟨w.heap.size + 1, 0, none⟩) (fun _ => 1) (fun _ => 1) [[7]] := by
  refine ⟨rfl, Nat.le_refl _, (by intro h; cases h), fun _ => ⟨w.heap.size + 1 + 1, 0, rfl, by simp [smO], fun i hi => ?_⟩, fun i hi => ?_, fun i hi => ?_, fun i hi => by omega⟩
  · obtain rfl : i = 0 := by omega
    have := heap_alloc_new ((w.alloc (.cells #[.int .i64 4, .int .i64 4, .int .i64 0] 43)).alloc (.cells #[.int .u8 7] 5)) (.cells #[.slice (some ⟨w.heap.size + 1, 0, none⟩) 1 1] 26)
    rw [World.size_alloc, World.size_alloc] at this
    rw [cell_of_row (smO w) (w.heap.size + 1 + 1) 0 _ 26 (0, 0) this]
    rfl
  · obtain rfl : i = 0 := by omega
    exact (lit_by _ 7 (w.heap.size + 1) (by simp)).below (below_new _ _)
  · obtain rfl : i = 0 := by omega
    intro z hz
    simp [da] at hz
    subst hz
    decide
theorem sm_write (w : World) (T : Mst w) : Calls Tryd.prog 11 #[.int .i64 0, .int .i64 12, .slice (some ⟨w.heap.size, 0, none⟩) 1 1, .slice (some ⟨w.heap.size + 1 + 1, 0, none⟩) 1 1] (smO w) fun e w' => ∃ xg hg, e = .returned (.tuple #[.slice (some ⟨xg, 0, none⟩) 96 96, .slice (some ⟨hg, 0, none⟩) 7 7, .int .i64 0]) ∧ Own .u8 5 w.heap.size w' (some ⟨xg, 0, none⟩) 96 96 (ofL smW) ∧ Sl .i64 w' (some ⟨hg, 0, none⟩) 7 7 smH ∧ Below w.heap.size w w' := by
  refine (write_ok 0 12 _ 1 1 smB _ 1 1 _ _ _ [[7]] (smO w) (T.kept (smO_below w)) (smO_bs w) (smO_rd w) (by omega) (by omega) sm_right sm_hold).mono ?_
  rintro e w' ⟨xg, hg, zs, rfl, k1, k2, k3, _, k4⟩
  obtain rfl := heap_one k1 sm_heap
  rw [sm_heads] at k3
  exact ⟨xg, hg, rfl, k2.mono (smO_below w).size, k3, next (smO_below w) k4⟩
theorem sm_read (xg hg : Nat) (w : World) (T : Mst w) (h : Sl .u8 w (some ⟨xg, 0, none⟩) 96 96 (ofL smW)) (hh : Sl .i64 w (some ⟨hg, 0, none⟩) 7 7 smH) : Calls Tryd.prog 18 #[.int .i64 0, .int .i64 12, .slice (some ⟨xg, 0, none⟩) 96 96, .slice (some ⟨hg, 0, none⟩) 7 7] w fun e w' => ∃ bo bf c dg dc a cc, e = .returned (.tuple #[.slice (some ⟨bo, bf, none⟩) 1 c, .slice (some ⟨dg, 0, none⟩) 1 dc, .bool true]) ∧ w'.cell? ⟨bo, bf + 1, none⟩ = some (.int .i64 4) ∧ w'.cell? ⟨dg, 0, none⟩ = some (.slice a 16 cc) ∧ Below w.heap.size w w' := by
  refine (read_ok 0 12 _ 96 96 (ofL smW) _ 7 7 smH smB w T h (ofL_bytes _) (by omega) hh (by omega) sm_is).mono ?_
  rintro e w' ⟨bo, c, dg, dc, A, N, C, rfl, k1, k2, k3⟩
  obtain ⟨b, off, rfl, _, hc⟩ := k1.bs.here (by decide)
  have h0 := hc 0 (by decide)
  have hr := k2.rd (by rw [fullD_length]) (fun i hi => by rw [da_full 0 (ofL smW) smB hi]; exact inL_bytes (ofL_bytes _))
  obtain ⟨b', o', e', _, hc'⟩ := hr.here (by decide)
  cases e'
  have h1 := hc' 0 (by decide)
  have h2 := (k2.own 0 (by decide)).len
  rw [da_full 0 (ofL smW) smB (by decide)] at h2
  have e3 : (inL 0 (ofL smW) (ba smB 0)).length = 16 := by decide +kernel
  rw [← h2, e3] at h1
  exact ⟨b, off, c, dg, dc, A 0, C 0, rfl, by have := h0.c1; rw [Nat.zero_mul, Nat.add_zero] at this; exact this, by simpa using h1, k3⟩
theorem sm_of (w : World) : Calls Tryd.prog 24 #[.slice (some ⟨w.heap.size, 0, none⟩) 12 12] (w.alloc (.cells #[.int .i64 256, .int .i64 9, .int .i64 0, .int .i64 256, .int .i64 257, .int .i64 7, .int .i64 0, .int .i64 257, .int .i64 256, .int .i64 0, .int .i64 1, .int .i64 256] 3)) fun e w' => ∃ ao m c, e = .returned (.tuple #[.slice ao m c, .int .i64 0]) ∧ Sl .u8 w' ao m c (ofL smW) ∧ Below w.heap.size w w' := by
  refine (of_any _ 12 12 smW _ (lits_sl w smW _ 12 rfl rfl) (by omega)).mono ?_
  rintro e w' ⟨ao, m, c, rfl, k1, k2⟩
  have e1 : ofE smW = 0 := by decide
  have e2 : ofR smW = ofL smW := by decide +kernel
  rw [e2] at k1
  rw [e1]
  exact ⟨ao, m, c, rfl, k1.sl, next (below_new w _) k2⟩
set_option maxHeartbeats 2000000 in
theorem smallT_any (w : World) (T : Mst w) : Calls Tryd.prog 8 #[] w fun e w' => e = .returned (.bool true) ∧ Below w.heap.size w w' := by
  have cW := sm_write w T
  simp only [smO] at cW
  have hT : ∀ w', Below w.heap.size w w' → Mst w' := fun w' hb => T.kept hb
  have cL : ∀ w', Below w.heap.size w w' → Calls Tryd.prog 16 #[.int .i64 129] w' fun e w'' => e = .returned (.tuple #[.int .i64 6, .bool true]) ∧ w' = w'' := fun w' hb => by
    have := list_any 129 w' (hT w' hb)
    rwa [show ((lsN 129 : Nat) : Int) = 6 by decide, show lsB 129 = true by decide] at this
  have tx : ∀ (w' : World) (a : Option Addr) (n c : Nat), Sl .u8 w' a n c (ofL smW) → (convert 26 9 (.slice a n c)).run Tryd.prog w' = .ok (.string (strOfNums (ofL smW))) w' := fun w' a n c h => h.text Tryd.underlying26 Tryd.underlying5 Tryd.underlying9
  have hd : ∀ (w' : World) (g : Nat), Sl .i64 w' (some ⟨g, 0, none⟩) 7 7 smH → w'.cell? ⟨g, 0, none⟩ = some (.int .i64 1) := fun w' g h => by
    obtain ⟨b, o, e, _, hc⟩ := h.here (by omega)
    cases e
    exact hc 0 (by omega)
  clear T
  go_enter Tryd.func8, Tryd.ntmps8
  go_wp2_with (first
    | (go_at_call 11; with_reducible refine cW.mono ?_; rintro e w1 ⟨xg, hg, rfl, k1, k2, hb1⟩; have cO := sm_of w1; clear cW)
    | (go_at_call 24; with_reducible refine cO.mono ?_; rintro e w2 ⟨ao2, m2, c2, rfl, k3, hb2⟩; have cR := sm_read xg hg w2 (hT w2 (next hb1 hb2)) (k1.sl.below hb2) (k2.below hb2); clear cO)
    | (go_at_call 18; with_reducible refine cR.mono ?_; rintro e w3 ⟨bo, bf, c, dg, dc, a, cc, rfl, q1, q2, hb3⟩; have b13 := next (next hb1 hb2) hb3; have cL' := cL w3 b13; have t1 := tx w3 _ _ _ ((k1.sl.below hb2).below hb3); have t2 := tx w3 _ _ _ (k3.below hb3); have q3 := hd w3 hg ((k2.below hb2).below hb3); clear cR cL tx hd hT k1 k2 k3)
    | (go_at_call 16; with_reducible refine cL'.mono ?_; rintro e w4 ⟨rfl, rfl⟩))
  go_ret
  exact ⟨rfl, b13⟩

/-- Data short enough to be played. -/
def FewD (ds : List (List Int)) : Prop := (∀ i, i < ds.length → (da ds i).length ≤ 4096) ∧ ds.length ≤ 60
theorem few_rd (bo : Option Addr) (m cap' : Nat) (A : Nat → Option Addr) (N C : Nat → Nat) (ds : List (List Int)) (w : World) (hd : Rd w bo m cap' A N C ds) (hm : m ≤ 9223372036854775807) :
    Calls Tryd.prog 9 #[.slice bo m cap'] w fun e w' => Answers (FewD ds) e ∧ w = w' := by
  have hl := hd.len
  go_enter Tryd.func9, Tryd.ntmps9
  go_wp2
  go_loop [3] (fun s => ∃ k : Nat, k ≤ m ∧ s = .int .i64 k ∧ Hid (∀ i, i < k → (da ds i).length ≤ 4096)) (fun s => m - (intOf s).toNat)
  case atStart => exact ⟨0, Nat.zero_le _, rfl, hid (fun i hi => absurd hi (by omega))⟩
  case round =>
    obtain ⟨k, hk, rfl, HK⟩ := hrel
    by_cases hlt : k < m
    · obtain ⟨b, off, rfl, hbl, hc⟩ := hd.here (by omega)
      have c0 := hc k hlt
      have hr := (hd.row k hlt).len
      have hki : (k : Int) < (m : Int) := by omega
      have HN : Hid (¬ N k ≤ 4096 → ¬ FewD ds) := hid (fun h1 h2 => h1 (by rw [← hr]; exact h2.1 k (by omega)))
      have HY : Hid (N k ≤ 4096 → ∀ i, i < k + 1 → (da ds i).length ≤ 4096) := hid (fun h1 i hi => by
        by_cases e : i < k
        · exact HK.out i e
        · obtain rfl : i = k := by omega
          rw [hr]; exact h1)
      clear hc hd HK hr
      generalize A k = ak at *
      generalize N k = nk at *
      generalize C k = ck at *
      by_cases h4 : nk ≤ 4096
      · have h4' : ¬ ((4096 : Int) < (nk : Int)) := by omega
        have HY' := hid (HY.out h4)
        clear HY HN
        go_wp2
        go_round
        case rel => exact ⟨k + 1, by omega, by go_num, HY'⟩
        case measure => simp [intOf]; omega
      · have h4' : (4096 : Int) < (nk : Int) := by omega
        have HN' := hid (HN.out h4)
        clear HY HN
        go_wp2
        go_ret
        exact ⟨ans_no HN'.out, rfl⟩
    · obtain rfl : k = m := by omega
      have hki : ¬ ((k : Int) < (k : Int)) := by omega
      by_cases h60 : k ≤ 60
      · have h60' : (k : Int) ≤ 60 := by omega
        go_wp2
        go_ret
        exact ⟨ans_yes ⟨fun i hi => HK.out i (by omega), by omega⟩, rfl⟩
      · have h60' : ¬ ((k : Int) ≤ 60) := by omega
        go_wp2
        go_ret
        exact ⟨ans_no (fun h => by have := h.2; omega), rfl⟩
end Go.Proofs.YtclkooaepfedaaaDoor
