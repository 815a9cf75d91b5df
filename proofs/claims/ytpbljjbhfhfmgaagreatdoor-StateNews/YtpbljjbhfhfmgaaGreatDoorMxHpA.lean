/- HpA · HpB: these texts, one behind another. -/
import Derived.Test.YtpbljjbhfhfmgaaGreatDoorMxInfo
import Derived.Test.YtpbljjbhfhfmgaaGreatDoorMxSlotR
import Derived.Test.YtpbljjbhfhfmgaaGreatDoorMxClsA
import Derived.Test.YtpbljjbhfhfmgaaGreatDoorMxGapA
import Derived.BigQuiet
import Derived.Deep.RegionHeld3
/- pages.wholePages and pages.partsOf by their contracts. -/
namespace Go.Proofs.YtpbljjbhfhfmgaaGreatDoor
set_option maxRecDepth 100000
open Go.RowKit
set_option linter.unusedVariables false
set_option linter.unusedSimpArgs false
set_option maxRecDepth 100000

theorem info_prt : (Tryz.prog.info? 156).map (fun i => (i.zero, i.size, i.bytes)) = some (some (.agg #[.int .i64 0, .int .i64 0, .int .i64 0]), 3, 24) := by kernel_rfl
/-- A row of n parts at the head of a block of the call's own. -/
structure OwT3 (B : Nat) (w : World) (g n : Nat) (l : List Blk) : Prop where
  len : l.length = n
  at' : w.heap[g]? = some (.cells (cellsB l).toArray 156 (0, 0))
  low : B ≤ g
  rg : ∀ s ∈ l, RgB s
theorem OwT3.lt {B : Nat} {w : World} {g n : Nat} {l : List Blk} (h : OwT3 B w g n l) : g < w.heap.size := (Array.getElem?_eq_some_iff.1 h.at').1
theorem OwT3.bs {B : Nat} {w : World} {g n : Nat} {l : List Blk} (h : OwT3 B w g n l) : Bs w (some ⟨g, 0, none⟩) n n l := by
  refine ⟨h.len, Nat.le_refl _, (by intro h; cases h), fun _ => ⟨g, 0, rfl, h.lt, fun i hi => B3.of fun j u hu => ?_⟩, h.rg⟩
  have hj : j < 3 := (List.getElem?_eq_some_iff.1 hu).1
  rw [cell_of_row w g _ _ 156 (0, 0) h.at', List.getElem?_toArray, Nat.zero_add, cellsB_get l (by rw [h.len]; exact hi) hj]
  exact hu
theorem OwT3.free {B : Nat} {w : World} {g n : Nat} {l : List Blk} (h : OwT3 B w g n l) (k : Nat) : w.frozen? ⟨g, k, none⟩ = false := frozen_of_row w g k _ 156 h.at'
theorem OwT3.set {B : Nat} {w : World} {g n : Nat} {l : List Blk} (h : OwT3 B w g n l) {k : Nat} (hk : k < n) {s : Blk} (hs : RgB s) : OwT3 B (((w.setCell ⟨g, k * 3, none⟩ (.int .i64 s.pos)).setCell ⟨g, k * 3 + 1, none⟩ (.int .i64 s.sz)).setCell ⟨g, k * 3 + 2, none⟩ (.int .i64 s.ix)) g n (l.set k s) := by
  refine ⟨by rw [List.length_set]; exact h.len, ?_, h.low, fun x hx => ?_⟩
  · have h1 := heap_setCell_same w g (k * 3) _ 156 (.int .i64 s.pos) h.at'
    have h2 := heap_setCell_same _ g (k * 3 + 1) _ 156 (.int .i64 s.sz) h1
    rw [heap_setCell_same _ g (k * 3 + 2) _ 156 (.int .i64 s.ix) h2, cellsB_set l k s (by rw [h.len]; exact hk)]
    simp
  · rcases List.mem_or_eq_of_mem_set hx with hx | hx
    · exact h.rg x hx
    · rw [hx]; exact hs
theorem OwT3.kept {B : Nat} {w w' : World} {g n : Nat} {l : List Blk} (h : OwT3 B w g n l) (hb : Below w.heap.size w w') : OwT3 B w' g n l := ⟨h.len, (hb.block g h.lt).trans h.at', h.low, h.rg⟩
/-- '[]part{p}'. -/
theorem owT3_one (w : World) (s : Blk) (hs : RgB s) : OwT3 w.heap.size (w.alloc (.cells #[.int .i64 s.pos, .int .i64 s.sz, .int .i64 s.ix] 156)) w.heap.size 1 [s] :=
  ⟨rfl, heap_alloc_new w _, Nat.le_refl _, fun x hx => by rw [List.mem_singleton.1 hx]; exact hs⟩
/-- Parts of a large one, some still to be laid. -/
def lgQ (a : Int) (n k : Nat) : List Blk := (List.range n).map (fun i : Nat => if i < k then (⟨a + (i : Int), 7, 0⟩ : Blk) else ⟨0, 0, 0⟩)
theorem lgQ_len (a : Int) (n k : Nat) : (lgQ a n k).length = n := by simp [lgQ]
theorem lgQ_set (a : Int) (n k : Nat) : (lgQ a n k).set k ⟨a + (k : Int), 7, 0⟩ = lgQ a n (k + 1) := by
  apply List.ext_getElem?
  intro i
  rw [List.getElem?_set]
  by_cases e : k = i
  · subst e
    by_cases h : k < n
    · rw [if_pos rfl, if_pos (by rw [lgQ_len]; exact h)]
      simp [lgQ, h]
    · rw [if_pos rfl, if_neg (by rw [lgQ_len]; exact h)]
      simp [lgQ, h]
  · rw [if_neg e]
    by_cases h : i < n
    · simp only [lgQ, List.getElem?_map, List.getElem?_range h, Option.map_some]
      congr 1
      by_cases c : i < k
      · rw [if_pos c, if_pos (by omega)]
      · rw [if_neg c, if_neg (by omega)]
    · simp [lgQ, h]
theorem lgQ_all (a : Int) (n : Nat) : (lgQ a n n).set 0 ⟨a, 6, 0⟩ = lgP a n := by
  apply List.ext_getElem?
  intro i
  rw [List.getElem?_set]
  by_cases e : 0 = i
  · subst e
    by_cases h : 0 < n
    · rw [if_pos rfl, if_pos (by rw [lgQ_len]; exact h)]
      simp [lgP, h]
    · rw [if_pos rfl, if_neg (by rw [lgQ_len]; exact h)]
      simp [lgP, h]
  · rw [if_neg e]
    by_cases h : i < n
    · simp only [lgQ, lgP, List.getElem?_map, List.getElem?_range h, Option.map_some]
      rw [if_pos h, if_neg (fun x => e x.symm)]
    · simp [lgQ, lgP, h]
theorem ba_zero (a : Int) (n i : Nat) : ba (lgQ a n 0) i = Blk.z := by
  unfold ba
  by_cases h : i < n
  · simp [lgQ, List.getD, h, Blk.z]
  · simp [lgQ, List.getD, h, Blk.z]
theorem made_parts (a : Int) (n : Nat) : (madeCells #[Value.int .i64 0, .int .i64 0, .int .i64 0] (n * 3)).toList = cellsB (lgQ a n 0) := by
  apply List.ext_getElem?
  intro i
  by_cases hi : i < n * 3
  · have g2 := cellsB_get (lgQ a n 0) (i := i / 3) (j := i % 3) (by rw [lgQ_len]; omega) (Nat.mod_lt _ (by omega))
    rw [show i / 3 * 3 + i % 3 = i by omega] at g2
    rw [g2, ba_zero]
    rcases (show i % 3 = 0 ∨ i % 3 = 1 ∨ i % 3 = 2 by omega) with e1 | e1 | e1 <;>
      simp [madeCells, hi, e1, Blk.cells, Blk.z]
  · rw [List.getElem?_eq_none (by simp [madeCells]; omega), List.getElem?_eq_none (by rw [cellsB_length, lgQ_len]; omega)]
theorem own_t3 {B : Nat} {w : World} {g n : Nat} {l : List Blk} (h : w.ownsRow B 156 3 (.slice (some ⟨g, 0, none⟩) n n) n (cellsB l)) (hl : l.length = n) (hr : ∀ s ∈ l, RgB s) : OwT3 B w g n l := by
  rcases h.2 with ⟨hv, _⟩ | ⟨g', cap', cur, hv, hg, hh, hc, hm, hs, ht⟩
  · cases hv
  · simp only [Value.slice.injEq, Option.some.injEq, Addr.mk.injEq, and_true, true_and] at hv
    obtain ⟨rfl, rfl⟩ := hv
    refine ⟨hl, ?_, hg, hr⟩
    rw [hh]
    congr 2
    rw [List.take_of_length_le (by rw [Array.length_toList]; omega)] at ht
    rw [← ht]
theorem lgQ_rg {a : Int} {n k : Nat} (ha : Rg a) (ha' : Rg (a + n)) : ∀ s ∈ lgQ a n k, RgB s := by
  intro s hs
  simp only [lgQ, List.mem_map, List.mem_range] at hs
  obtain ⟨i, hi, rfl⟩ := hs
  unfold Rg at ha ha'
  split
  · refine ⟨?_, ?_, ?_⟩ <;> unfold Rg <;> simp only <;> omega
  · refine ⟨?_, ?_, ?_⟩ <;> unfold Rg <;> simp only <;> omega
theorem OwT3.first {B : Nat} {w : World} {g n : Nat} {a : Int} (h : OwT3 B w g n (lgQ a n n)) (hn : 0 < n) (ha : Rg a) : OwT3 B (w.setCell ⟨g, 1, none⟩ (.int .i64 6)) g n (lgP a n) := by
  refine ⟨by simp [lgP], ?_, h.low, fun s hs => ?_⟩
  · rw [heap_setCell_same w g 1 _ 156 (.int .i64 6) h.at', ← lgQ_all, cellsB_set _ 0 _ (by rw [lgQ_len]; exact hn)]
    congr 2
    apply Array.ext'
    rw [Array.toList_setIfInBounds]
    simp only [Nat.zero_mul, Nat.zero_add]
    have g0 := cellsB_get (lgQ a n n) (i := 0) (j := 0) (by rw [lgQ_len]; exact hn) (by omega)
    have g2 := cellsB_get (lgQ a n n) (i := 0) (j := 2) (by rw [lgQ_len]; exact hn) (by omega)
    have e : ba (lgQ a n n) 0 = ⟨a, 7, 0⟩ := by simp [ba, lgQ, List.getD, hn]
    rw [e] at g0 g2
    simp only [Nat.zero_mul, Nat.zero_add, Blk.cells] at g0 g2
    apply List.ext_getElem?
    intro i
    simp only [List.getElem?_set, List.length_set]
    by_cases h0 : i = 0
    · subst h0
      have : 0 < (cellsB (lgQ a n n)).length := (List.getElem?_eq_some_iff.1 g0).1
      simp [this]
      exact Option.some.inj ((List.getElem?_eq_getElem this).symm.trans g0)
    · by_cases h2 : i = 2
      · subst h2
        have : 2 < (cellsB (lgQ a n n)).length := (List.getElem?_eq_some_iff.1 g2).1
        simp [this]
        exact Option.some.inj ((List.getElem?_eq_getElem this).symm.trans g2)
      · simp [show ¬ 0 = i from fun x => h0 x.symm, show ¬ 2 = i from fun x => h2 x.symm]
  · rw [← lgQ_all] at hs
    rcases List.mem_or_eq_of_mem_set hs with hs | hs
    · exact h.rg s hs
    · rw [hs]
      exact ⟨ha, by unfold Rg; simp only; omega, by unfold Rg; simp only; omega⟩
set_option maxHeartbeats 1000000 in
theorem whole_any (a : Int) (n : Nat) (hn : 1 ≤ n ∧ n ≤ 8) (ha : Rg a) (ha' : Rg (a + n)) (w : World) :
    Calls Tryz.prog 135 #[.int .i64 a, .int .i64 n] w fun e w' => ∃ g, e = .returned (.slice (some ⟨g, 0, none⟩) n n) ∧ OwT3 w.heap.size w' g n (lgP a n) ∧ Below w.heap.size w w' := by
  obtain ⟨i0, hi, hz0, hz1, hz2⟩ := info_parts info_prt
  have HA := hid ha
  have HA' := hid ha'
  unfold Rg at ha ha'
  go_enter Tryz.func135, Tryz.ntmps135
  go_wp2_with (at_make; refine wpList_make_full _ rfl _ _ 164 rfl w.heap.size 156 i0 (.agg #[.int .i64 0, .int .i64 0, .int .i64 0]) 3 Tryz.underlying164 hi hz0 hz1 .i64 .i64 _ _ n rfl rfl rfl rfl ?b2 ?b3 ?b4 ?_)
  case b2 => rw [hz2]; omega
  case b3 => unfold maxLen; omega
  case b4 => exact Nat.le_refl _
  intro w1 hown hgrow
  have HO := hid (own_t3 (l := lgQ a n 0) (by rw [← made_parts]; exact hown) (lgQ_len _ _ _) (lgQ_rg HA.out HA'.out))
  have hbel : Below w.heap.size w w1 := (Below.refl _ _).grown hgrow (Nat.le_refl _) (by intro k hk; cases hk)
  clear hown hgrow hi hz0 hz1 hz2 i0
  go_wp2
  go_loopw [11] (fun s11 wr => ∃ k : Nat, k ≤ n ∧ s11 = .int .i64 k ∧ Hid (OwT3 w.heap.size wr w.heap.size n (lgQ a n k)) ∧ Below w.heap.size w wr) (fun s11 _ => n - (intOf s11).toNat)
  case atStart => exact ⟨0, Nat.zero_le _, rfl, HO, hbel⟩
  case round =>
    obtain ⟨k, hk, rfl, HO1, hb⟩ := hrel
    by_cases hlt : k < n
    · have hki : (k : Int) < (n : Int) := by omega
      have x1 : IntKind.i64.wrap (a + (k : Int)) = a + (k : Int) := IntWalk.i64_in _ ⟨by omega, by omega⟩
      obtain ⟨c0, c1, c2⟩ := HO1.out.bs.at (Below.refl _ _) hlt
      rw [Nat.zero_add] at c0 c1 c2
      have f0 := HO1.out.free (k * 3)
      have f1 := HO1.out.free (k * 3 + 1)
      have f2 := HO1.out.free (k * 3 + 2)
      have HS := hid (HO1.out.set hlt (s := ⟨a + (k : Int), 7, 0⟩) ⟨by unfold Rg; simp only; omega, by unfold Rg; simp only; omega, by unfold Rg; simp only; omega⟩)
      rw [lgQ_set] at HS
      have HB3 : Hid (∀ u v t, Below w.heap.size w (((wr.setCell ⟨w.heap.size, k * 3, none⟩ u).setCell ⟨w.heap.size, k * 3 + 1, none⟩ v).setCell ⟨w.heap.size, k * 3 + 2, none⟩ t)) := hid (fun u v t => ((hb.setCell (Nat.le_refl _) _).setCell (Nat.le_refl _) _).setCell (Nat.le_refl _) _)
      clear HO HO1
      go_wp2
      go_roundw
      case rel => exact ⟨k + 1, by omega, by go_num, HS, HB3.out _ _ _⟩
      case measure => simp [intOf]; omega
    · obtain rfl : k = n := by omega
      obtain ⟨c0, c1, c2⟩ := HO1.out.bs.at (Below.refl _ _) (show 0 < k by omega)
      have f1 := HO1.out.free 1
      have hk0 : (0 : Int) < (k : Int) := by omega
      have HS := hid (HO1.out.first (by omega) HA.out)
      have HB3 : Hid (∀ u, Below w.heap.size w (wr.setCell ⟨w.heap.size, 1, none⟩ u)) := hid (fun u => hb.setCell (Nat.le_refl _) _)
      clear HO HO1
      go_wp2
      go_ret
      exact ⟨w.heap.size, rfl, HS.out, HB3.out _⟩
theorem OwT3.mono {B B' : Nat} {w : World} {g n : Nat} {l : List Blk} (h : OwT3 B w g n l) (hB : B' ≤ B) : OwT3 B' w g n l := ⟨h.len, h.at', Nat.le_trans hB h.low, h.rg⟩
theorem prO_small {o : Spn} (h : SmP o) : prO o = [⟨o.pos.tdiv 32, clN o.sz, o.pos.tmod 32⟩] := prO_s h
set_option maxHeartbeats 1000000 in
theorem partsOf_any (o : Spn) (ho : RgP o) (w : World) (T : Cws w) :
    Calls Tryz.prog 129 #[.agg #[.int .i64 o.pos, .int .i64 o.sz]] w fun e w' => ∃ g n, e = .returned (.slice (some ⟨g, 0, none⟩) n n) ∧ OwT3 w.heap.size w' g n (prO o) ∧ Below w.heap.size w w' := by
  have hb0 : Below w.heap.size w (w.alloc (.cells #[.int .i64 o.pos, .int .i64 o.sz] 58)) := (Below.refl _ _).alloc (Nat.le_refl _) _
  have T0 := T.kept hb0
  obtain ⟨q1, q2, q3, q4, q5⟩ := tm32 o.pos
  have hp : -9223372036854775808 ≤ o.pos ∧ o.pos ≤ 9223372036854775807 := ho.1
  have HPR := hid (prO_ok ho.1)
  have y1 : IntKind.i64.wrap (o.pos.tdiv 32) = o.pos.tdiv 32 := IntWalk.i64_in _ ⟨by omega, by omega⟩
  have cO : ∀ w1, Below (w.alloc (.cells #[.int .i64 o.pos, .int .i64 o.sz] 58)).heap.size (w.alloc (.cells #[.int .i64 o.pos, .int .i64 o.sz] 58)) w1 → Calls Tryz.prog 132 #[.int .i64 o.sz] w1 fun e w' => e = .returned (.tuple #[.int .i64 (clN o.sz : Int), .bool (clB o.sz)]) ∧ w1 = w' := fun w1 hb => clsOf_any o.sz w1 (T0.kept hb)
  have cW : ∀ w1, Below (w.alloc (.cells #[.int .i64 o.pos, .int .i64 o.sz] 58)).heap.size (w.alloc (.cells #[.int .i64 o.pos, .int .i64 o.sz] 58)) w1 → Calls Tryz.prog 133 #[.int .i64 (clN o.sz : Int), .int .i64 (o.pos.tmod 32)] w1 fun e w' => e = .returned (.tuple #[.int .i64 (whN (clN o.sz) (o.pos.tmod 32)), .bool (whB (clN o.sz) (o.pos.tmod 32))]) ∧ w1 = w' := fun w1 hb => which_any _ _ (by omega) w1 (T0.kept hb)
  have cP : ∀ w1, Below (w.alloc (.cells #[.int .i64 o.pos, .int .i64 o.sz] 58)).heap.size (w.alloc (.cells #[.int .i64 o.pos, .int .i64 o.sz] 58)) w1 → Calls Tryz.prog 134 #[.int .i64 o.sz] w1 fun e w' => e = .returned (.tuple #[.int .i64 (pgN o.sz), .int .i64 (pgE o.sz)]) ∧ w1 = w' := fun w1 hb => pages_any o.sz w1 (T0.kept hb)
  have HB1 : Hid (∀ k, Below (w.alloc (.cells #[.int .i64 o.pos, .int .i64 o.sz] 58)).heap.size (w.alloc (.cells #[.int .i64 o.pos, .int .i64 o.sz] 58)) ((w.alloc (.cells #[.int .i64 o.pos, .int .i64 o.sz] 58)).drewN k)) := hid (fun k => below_drewN (Below.refl _ _) k)
  have HB2 : Hid (∀ k ob, Below w.heap.size w (((w.alloc (.cells #[.int .i64 o.pos, .int .i64 o.sz] 58)).drewN k).alloc ob)) := hid (fun k ob => (below_drewN hb0 k).alloc (by have := (below_drewN hb0 k).size; exact this) _)
  have HB3 := hid hb0
  have HON : Hid (∀ k (s : Blk), RgB s → OwT3 w.heap.size (((w.alloc (.cells #[.int .i64 o.pos, .int .i64 o.sz] 58)).drewN k).alloc (.cells #[.int .i64 s.pos, .int .i64 s.sz, .int .i64 s.ix] 156)) (w.heap.size + 1) 1 [s]) := hid (fun k s hs => by
    have := (owT3_one ((w.alloc (.cells #[.int .i64 o.pos, .int .i64 o.sz] 58)).drewN k) s hs).mono (show w.heap.size ≤ _ by simp)
    simpa using this)
  have HNW : Hid (RgB ⟨-1, 0, 0⟩) := hid ⟨by unfold Rg; simp only; omega, by unfold Rg; simp only; omega, by unfold Rg; simp only; omega⟩
  by_cases hs : 1 ≤ o.sz ∧ o.sz ≤ 120
  · rw [cl_b hs] at cO
    by_cases hw : WhOk (clN o.sz) (o.pos.tmod 32)
    · rw [(wh_t hw).2] at cW
      have HE := hid (prO_s (o := o) ⟨hs, hw⟩)
      have HRG := hid (HPR.out ⟨o.pos.tdiv 32, clN o.sz, o.pos.tmod 32⟩ (by rw [HE.out]; simp)).2
      clear HPR T T0 ho hw hb0 cP q1 q2 q3 q4 q5
      obtain ⟨p, z⟩ := o
      simp only at *
      go_enter Tryz.func129, Tryz.ntmps129
      go_wp2
      go_quiet (fail)
      go_wp2_with (first
        | (go_at_call 132; with_reducible refine (cO _ (HB1.out _)).mono ?_; rintro e w' ⟨rfl, rfl⟩)
        | (go_at_call 133; with_reducible refine (cW _ (HB1.out _)).mono ?_; rintro e w' ⟨rfl, rfl⟩))
      go_ret
      exact ⟨w.heap.size + 1, 1, rfl, by rw [HE.out]; exact HON.out _ _ HRG.out, HB2.out _ _⟩
    · rw [(wh_f hw).2] at cW
      have HE := hid (prO_n (o := o) (fun c => hw c.2) (fun c => by have := c.1; omega))
      have hpe : pgE o.sz = 1 := (pg_f (by omega)).2
      rw [hpe] at cP
      clear HPR T T0 ho hw hb0 hpe q1 q2 q3 q4 q5
      obtain ⟨p, z⟩ := o
      simp only at *
      go_enter Tryz.func129, Tryz.ntmps129
      go_wp2
      go_quiet (fail)
      go_wp2_with (first
        | (go_at_call 132; with_reducible refine (cO _ (HB1.out _)).mono ?_; rintro e w' ⟨rfl, rfl⟩)
        | (go_at_call 133; with_reducible refine (cW _ (HB1.out _)).mono ?_; rintro e w' ⟨rfl, rfl⟩)
        | (go_at_call 134; with_reducible refine (cP _ (HB1.out _)).mono ?_; rintro e w' ⟨rfl, rfl⟩))
      go_ret
      exact ⟨w.heap.size + 1, 1, rfl, by rw [HE.out]; exact HON.out _ _ HNW.out, HB2.out _ _⟩
  · rw [(cl_f hs).2] at cO
    by_cases hg : 120 < o.sz ∧ o.sz ≤ 2048
    · have hpe : pgE o.sz = 0 := (pg_t hg).2
      rw [hpe] at cP
      by_cases h0 : o.pos.tmod 32 = 0
      · have HE := hid (prO_l (o := o) ⟨hg, h0⟩)
        have hd : (o.pos.tmod 32 == 0) = true := by simpa using h0
        obtain ⟨m, hm⟩ : ∃ m : Nat, pgN o.sz = m := ⟨(pgN o.sz).toNat, by have := pgN_in hg; omega⟩
        have hm8 := pgN_in hg
        rw [hm] at cP hm8
        have cH : ∀ w1, Calls Tryz.prog 135 #[.int .i64 (o.pos.tdiv 32), .int .i64 m] w1 fun e w' => ∃ g, e = .returned (.slice (some ⟨g, 0, none⟩) m m) ∧ OwT3 w1.heap.size w' g m (lgP (o.pos.tdiv 32) m) ∧ Below w1.heap.size w1 w' := fun w1 => whole_any _ m ⟨by omega, by omega⟩ (by unfold Rg; omega) (by unfold Rg; omega) w1
        have HEM : Hid (prO o = lgP (o.pos.tdiv 32) m) := hid (by rw [HE.out, hm, Int.toNat_natCast])
        have HBX : Hid (∀ k w', Below ((w.alloc (.cells #[.int .i64 o.pos, .int .i64 o.sz] 58)).drewN k).heap.size ((w.alloc (.cells #[.int .i64 o.pos, .int .i64 o.sz] 58)).drewN k) w' → Below w.heap.size w w') := hid (fun k w' hb => next (below_drewN HB3.out k) hb)
        clear HPR T T0 ho hb0 hpe HE hm h0 cW q1 q2 q3 q4 q5
        obtain ⟨p, z⟩ := o
        simp only at *
        go_enter Tryz.func129, Tryz.ntmps129
        go_wp2
        go_quiet (fail)
        go_wp2_with (first
          | (go_at_call 132; with_reducible refine (cO _ (HB1.out _)).mono ?_; rintro e w' ⟨rfl, rfl⟩)
          | (go_at_call 134; with_reducible refine (cP _ (HB1.out _)).mono ?_; rintro e w' ⟨rfl, rfl⟩)
          | (go_at_call 135; with_reducible refine (cH _).mono ?_; rintro e w2 ⟨g, rfl, ho2, hb2⟩; have HO2 := hid ho2; have HBB := hid (HBX.out _ _ hb2); clear ho2 hb2))
        go_ret
        exact ⟨g, m, rfl, by rw [HEM.out]; exact HO2.out.mono (by simp), HBB.out⟩
      · have HE := hid (prO_n (o := o) (fun c => hs c.1) (fun c => h0 c.2))
        have hd : (o.pos.tmod 32 == 0) = false := by simpa using h0
        clear HPR T T0 ho hb0 hpe h0 cW q1 q2 q3 q4 q5
        obtain ⟨p, z⟩ := o
        simp only at *
        go_enter Tryz.func129, Tryz.ntmps129
        go_wp2
        go_quiet (fail)
        go_wp2_with (first
          | (go_at_call 132; with_reducible refine (cO _ (HB1.out _)).mono ?_; rintro e w' ⟨rfl, rfl⟩)
          | (go_at_call 134; with_reducible refine (cP _ (HB1.out _)).mono ?_; rintro e w' ⟨rfl, rfl⟩))
        go_ret
        exact ⟨w.heap.size + 1, 1, rfl, by rw [HE.out]; exact HON.out _ _ HNW.out, HB2.out _ _⟩
    · have HE := hid (prO_n (o := o) (fun c => hs c.1) (fun c => hg c.1))
      have hpe : pgE o.sz = 1 := (pg_f hg).2
      rw [hpe] at cP
      clear HPR T T0 ho hb0 hpe cW q1 q2 q3 q4 q5
      obtain ⟨p, z⟩ := o
      simp only at *
      go_enter Tryz.func129, Tryz.ntmps129
      go_wp2
      go_quiet (fail)
      go_wp2_with (first
        | (go_at_call 132; with_reducible refine (cO _ (HB1.out _)).mono ?_; rintro e w' ⟨rfl, rfl⟩)
        | (go_at_call 134; with_reducible refine (cP _ (HB1.out _)).mono ?_; rintro e w' ⟨rfl, rfl⟩))
      go_ret
      exact ⟨w.heap.size + 1, 1, rfl, by rw [HE.out]; exact HON.out _ _ HNW.out, HB2.out _ _⟩
end Go.Proofs.YtpbljjbhfhfmgaaGreatDoor
/- pages' take by its contract. -/
namespace Go.Proofs.YtpbljjbhfhfmgaaGreatDoor
set_option maxRecDepth 100000
open Go.RowKit
set_option linter.unusedVariables false
set_option linter.unusedSimpArgs false
set_option maxRecDepth 100000

theorem HpOk.parts {N : Nat} {s : HpS} {i j : Nat} {k : Int} : HpOk N s ⟨(i : Int), k, (j : Int)⟩ ↔ i < N ∧ (s.kd i = -1 ∨ s.kd i = k) ∧ s.tk i j = false := by
  unfold HpOk
  simp only [Int.toNat_natCast]
  constructor
  · rintro ⟨h1, h2, h3⟩; exact ⟨by omega, h2, h3⟩
  · rintro ⟨h1, h2, h3⟩; exact ⟨⟨by omega, by omega⟩, h2, h3⟩
def prtO (p : Blk) : Obj := .cells #[.int .i64 p.pos, .int .i64 p.sz, .int .i64 p.ix] 156
theorem take_out (b N : Nat) (s : HpS) (p : Blk) (w : World) (h : Hpb w b N s) (hN : N ≤ 64) (hp : ¬ (0 ≤ p.pos ∧ p.pos < N)) :
    Calls Tryz.prog 120 #[.pointer (some ⟨b, 0, none⟩), .agg #[.int .i64 p.pos, .int .i64 p.sz, .int .i64 p.ix]] w fun e w' => e = .returned (.bool false) ∧ Below w.heap.size w w' := by
  have hb0 : Below w.heap.size w (w.alloc (.cells #[.int .i64 p.pos, .int .i64 p.sz, .int .i64 p.ix] 156)) := (Below.refl _ _).alloc (Nat.le_refl _) _
  have h1 := h.kept hb0
  have c9 := h1.count
  have hlt := h.lt
  clear h h1
  obtain ⟨p, k, x⟩ := p
  simp only at *
  by_cases hneg : p < 0
  · have hd : decide (p < 0) = true := decide_eq_true hneg
    go_enter Tryz.func120, Tryz.ntmps120
    go_wp2
    go_quiet (fail)
    go_wp2
    go_ret
    exact ⟨rfl, below_drewN hb0 _⟩
  · have hd : decide (p < 0) = false := decide_eq_false hneg
    have hge : (N : Int) ≤ p := by omega
    have hd2 : decide ((N : Int) ≤ p) = true := decide_eq_true hge
    go_enter Tryz.func120, Tryz.ntmps120
    go_wp2
    go_quiet (fail)
    go_wp2
    go_ret
    exact ⟨rfl, below_drewN hb0 _⟩
set_option maxHeartbeats 1000000 in
theorem take_kind (b N i j : Nat) (k : Int) (s : HpS) (w : World) (h : Hpb w b N s) (hN : N ≤ 64) (hi : i < N) (hj : j < 32) (hk : s.kd i ≠ -1) (hk2 : s.kd i ≠ k) :
    Calls Tryz.prog 120 #[.pointer (some ⟨b, 0, none⟩), .agg #[.int .i64 (i : Int), .int .i64 k, .int .i64 (j : Int)]] w fun e w' => e = .returned (.bool false) ∧ Below w.heap.size w w' := by
  have hb0 : Below w.heap.size w (w.alloc (.cells #[.int .i64 (i : Int), .int .i64 k, .int .i64 (j : Int)] 156)) := (Below.refl _ _).alloc (Nat.le_refl _) _
  have h1 := h.kept hb0
  have c9 := h1.count
  have c0 := h1.kind hi hN
  have H1 := hid h1
  have HB := hid hb0
  have hlt := h.lt
  have hd1 : decide ((i : Int) < 0) = false := decide_eq_false (by omega)
  have hd1' : ¬ ((i : Int) < 0) := by omega
  have hd2 : decide ((N : Int) ≤ (i : Int)) = false := decide_eq_false (by omega)
  have hd2' : ¬ ((N : Int) ≤ (i : Int)) := by omega
  have hd2'' : ¬ (N ≤ i) := by omega
  have hi64 : (i : Int) < 64 := by omega
  have hi64' : i < 64 := by omega
  generalize s.kd i = v at *
  have hd3 : (v == -1) = false := by simpa using hk
  have hd4 : (v != k) = true := by simpa using hk2
  clear h h1 hk hk2
  go_enter Tryz.func120, Tryz.ntmps120
  go_wp2
  go_quiet (fail)
  go_wp2
  go_quiet (fail)
  go_wp2
  go_quiet (fail)
  go_wp2
  go_ret
  exact ⟨rfl, below_drewN (below_drewN hb0 _) _⟩
set_option maxHeartbeats 1000000 in
theorem take_word1 (b N i j : Nat) (k : Int) (s : HpS) (w : World) (h : Hpb w b N s) (hN : N ≤ 64) (hi : i < N) (hj : j < 32) (hk : s.kd i = k) (hk1 : k ≠ -1) (ht : s.tk i j = true) :
    Calls Tryz.prog 120 #[.pointer (some ⟨b, 0, none⟩), .agg #[.int .i64 (i : Int), .int .i64 k, .int .i64 (j : Int)]] w fun e w' => e = .returned (.bool false) ∧ Off (fun x => x = b) w w' := by
  have hb0 : Below w.heap.size w (w.alloc (.cells #[.int .i64 (i : Int), .int .i64 k, .int .i64 (j : Int)] 156)) := (Below.refl _ _).alloc (Nat.le_refl _) _
  have h1 := h.kept hb0
  have c9 := h1.count
  have c0 := h1.kind hi hN
  have c1 := h1.word (show i < 64 by omega) hj
  have f0 := h1.free (i * 33)
  have f1 := h1.free (i * 33 + 1 + j)
  have H1 := hid h1
  have HB := hid hb0
  have hlt := h.lt
  have hd1 : decide ((i : Int) < 0) = false := decide_eq_false (by omega)
  have hd1' : ¬ ((i : Int) < 0) := by omega
  have hd2 : decide ((N : Int) ≤ (i : Int)) = false := decide_eq_false (by omega)
  have hd2' : ¬ ((N : Int) ≤ (i : Int)) := by omega
  have hd2'' : ¬ (N ≤ i) := by omega
  have hi64 : (i : Int) < 64 := by omega
  have hi64' : i < 64 := by omega
  have hj32 : (j : Int) < 32 := by omega
  have hne : b ≠ w.heap.size := by omega
  have hne2 : i * 33 + 1 + j ≠ i * 33 := by omega
  have hne3 : i * 33 ≠ i * 33 + 1 + j := by omega
  rw [hk] at c0
  rw [ht] at c1
  have hd3 : (k == -1) = false := by simpa using hk1
  have hd4 : (k != k) = false := by simp
  clear h h1 hk hk1 ht
  go_enter Tryz.func120, Tryz.ntmps120
  go_wp2
  go_quiet (fail)
  go_wp2
  go_quiet (fail)
  go_wp2
  go_quiet (fail)
  go_wp2
  go_ret
  exact ⟨rfl, Off.of_below (below_drewN (below_drewN hb0 _) _)⟩
set_option maxHeartbeats 1000000 in
theorem take_word2 (b N i j : Nat) (k : Int) (s : HpS) (w : World) (h : Hpb w b N s) (hN : N ≤ 64) (hi : i < N) (hj : j < 32) (hk : s.kd i = -1) (ht : s.tk i j = true) :
    Calls Tryz.prog 120 #[.pointer (some ⟨b, 0, none⟩), .agg #[.int .i64 (i : Int), .int .i64 k, .int .i64 (j : Int)]] w fun e w' => e = .returned (.bool false) ∧ Off (fun x => x = b) w w' := by
  have hb0 : Below w.heap.size w (w.alloc (.cells #[.int .i64 (i : Int), .int .i64 k, .int .i64 (j : Int)] 156)) := (Below.refl _ _).alloc (Nat.le_refl _) _
  have h1 := h.kept hb0
  have c9 := h1.count
  have c0 := h1.kind hi hN
  have c1 := h1.word (show i < 64 by omega) hj
  have f0 := h1.free (i * 33)
  have f1 := h1.free (i * 33 + 1 + j)
  have H1 := hid h1
  have HB := hid hb0
  have hlt := h.lt
  have hd1 : decide ((i : Int) < 0) = false := decide_eq_false (by omega)
  have hd1' : ¬ ((i : Int) < 0) := by omega
  have hd2 : decide ((N : Int) ≤ (i : Int)) = false := decide_eq_false (by omega)
  have hd2' : ¬ ((N : Int) ≤ (i : Int)) := by omega
  have hd2'' : ¬ (N ≤ i) := by omega
  have hi64 : (i : Int) < 64 := by omega
  have hi64' : i < 64 := by omega
  have hj32 : (j : Int) < 32 := by omega
  have hne : b ≠ w.heap.size := by omega
  have hne2 : i * 33 + 1 + j ≠ i * 33 := by omega
  have hne3 : i * 33 ≠ i * 33 + 1 + j := by omega
  rw [hk] at c0
  rw [ht] at c1
  have hd4 : (k != k) = false := by simp
  clear h h1 hk ht
  go_enter Tryz.func120, Tryz.ntmps120
  go_wp2
  go_quiet (fail)
  go_wp2
  go_quiet (fail)
  go_wp2
  go_quiet (fail)
  go_wp2
  go_ret
  exact ⟨rfl, ((((Off.of_below (F := fun x => x = b) HB.out).drewN _).setCell ⟨b, i * 33, none⟩ _ rfl).drewN _)⟩
set_option maxHeartbeats 1000000 in
theorem take_one1 (b N i j : Nat) (k : Int) (s : HpS) (w : World) (h : Hpb w b N s) (hN : N ≤ 64) (hi : i < N) (hj : j < 32) (hk : s.kd i = k) (hk1 : k ≠ -1) (ht : s.tk i j = false) :
    Calls Tryz.prog 120 #[.pointer (some ⟨b, 0, none⟩), .agg #[.int .i64 (i : Int), .int .i64 k, .int .i64 (j : Int)]] w fun e w' => e = .returned (.bool true) ∧ Hpb w' b N (s.put ⟨(i : Int), k, (j : Int)⟩) ∧ Off (fun x => x = b) w w' := by
  have hb0 : Below w.heap.size w (w.alloc (.cells #[.int .i64 (i : Int), .int .i64 k, .int .i64 (j : Int)] 156)) := (Below.refl _ _).alloc (Nat.le_refl _) _
  have h1 := h.kept hb0
  have c9 := h1.count
  have c0 := h1.kind hi hN
  have c1 := h1.word (show i < 64 by omega) hj
  have f0 := h1.free (i * 33)
  have f1 := h1.free (i * 33 + 1 + j)
  have H1 := hid h1
  have HB := hid hb0
  have hlt := h.lt
  have hd1 : decide ((i : Int) < 0) = false := decide_eq_false (by omega)
  have hd1' : ¬ ((i : Int) < 0) := by omega
  have hd2 : decide ((N : Int) ≤ (i : Int)) = false := decide_eq_false (by omega)
  have hd2' : ¬ ((N : Int) ≤ (i : Int)) := by omega
  have hd2'' : ¬ (N ≤ i) := by omega
  have hi64 : (i : Int) < 64 := by omega
  have hi64' : i < 64 := by omega
  have hj32 : (j : Int) < 32 := by omega
  have hne : b ≠ w.heap.size := by omega
  have hne2 : i * 33 + 1 + j ≠ i * 33 := by omega
  have hne3 : i * 33 ≠ i * 33 + 1 + j := by omega
  rw [hk] at c0
  rw [ht] at c1
  have hd3 : (k == -1) = false := by simpa using hk1
  have hd4 : (k != k) = false := by simp
  have HK := hid hk
  clear h h1 hk hk1 ht
  go_enter Tryz.func120, Tryz.ntmps120
  go_wp2
  go_quiet (fail)
  go_wp2
  go_quiet (fail)
  go_wp2
  go_quiet (fail)
  go_wp2
  go_region
  all_goals go_wp2
  go_ret
  refine ⟨rfl, ?_, ((Off.of_below (F := fun x => x = b) HB.out).drewN _).setCell _ _ rfl⟩
  refine ((H1.out.kept (below_drewN (Below.refl _ _) _)).setW hi64' hj).eq (fun x hx => ?_) (fun x y _ _ => rfl)
  show s.kd x = if x = i then k else s.kd x
  by_cases e : x = i
  · rw [if_pos e, e]; exact HK.out
  · rw [if_neg e]
set_option maxHeartbeats 1000000 in
theorem take_one2 (b N i j : Nat) (k : Int) (s : HpS) (w : World) (h : Hpb w b N s) (hN : N ≤ 64) (hi : i < N) (hj : j < 32) (hk : s.kd i = -1) (ht : s.tk i j = false) :
    Calls Tryz.prog 120 #[.pointer (some ⟨b, 0, none⟩), .agg #[.int .i64 (i : Int), .int .i64 k, .int .i64 (j : Int)]] w fun e w' => e = .returned (.bool true) ∧ Hpb w' b N (s.put ⟨(i : Int), k, (j : Int)⟩) ∧ Off (fun x => x = b) w w' := by
  have hb0 : Below w.heap.size w (w.alloc (.cells #[.int .i64 (i : Int), .int .i64 k, .int .i64 (j : Int)] 156)) := (Below.refl _ _).alloc (Nat.le_refl _) _
  have h1 := h.kept hb0
  have c9 := h1.count
  have c0 := h1.kind hi hN
  have c1 := h1.word (show i < 64 by omega) hj
  have f0 := h1.free (i * 33)
  have f1 := h1.free (i * 33 + 1 + j)
  have H1 := hid h1
  have HB := hid hb0
  have hlt := h.lt
  have hd1 : decide ((i : Int) < 0) = false := decide_eq_false (by omega)
  have hd1' : ¬ ((i : Int) < 0) := by omega
  have hd2 : decide ((N : Int) ≤ (i : Int)) = false := decide_eq_false (by omega)
  have hd2' : ¬ ((N : Int) ≤ (i : Int)) := by omega
  have hd2'' : ¬ (N ≤ i) := by omega
  have hi64 : (i : Int) < 64 := by omega
  have hi64' : i < 64 := by omega
  have hj32 : (j : Int) < 32 := by omega
  have hne : b ≠ w.heap.size := by omega
  have hne2 : i * 33 + 1 + j ≠ i * 33 := by omega
  have hne3 : i * 33 ≠ i * 33 + 1 + j := by omega
  rw [hk] at c0
  rw [ht] at c1
  have hd4 : (k != k) = false := by simp
  clear h h1 hk ht
  go_enter Tryz.func120, Tryz.ntmps120
  go_wp2
  go_quiet (fail)
  go_wp2
  go_quiet (fail)
  go_wp2
  go_quiet (fail)
  go_wp2
  go_region
  all_goals go_wp2
  go_ret
  exact ⟨rfl, (((H1.out.kept (below_drewN (Below.refl _ _) _)).setK hi hN k).kept (below_drewN (Below.refl _ _) _)).setW hi64' hj, ((((Off.of_below (F := fun x => x = b) HB.out).drewN _).setCell ⟨b, i * 33, none⟩ _ rfl).drewN _).setCell ⟨b, i * 33 + 1 + j, none⟩ _ rfl⟩
/-- A part taken; one that can't be. -/
theorem take_t (b N : Nat) (s : HpS) (p : Blk) (w : World) (h : Hpb w b N s) (hN : N ≤ 64) (hx : 0 ≤ p.ix ∧ p.ix < 32) (hz : p.sz ≠ -1) (hp : HpOk N s p) :
    Calls Tryz.prog 120 #[.pointer (some ⟨b, 0, none⟩), .agg #[.int .i64 p.pos, .int .i64 p.sz, .int .i64 p.ix]] w fun e w' => e = .returned (.bool true) ∧ Hpb w' b N (s.put p) ∧ Off (fun x => x = b) w w' := by
  obtain ⟨q, k, x⟩ := p
  simp only at *
  obtain ⟨i, rfl⟩ := Int.eq_ofNat_of_zero_le hp.1.1
  obtain ⟨j, rfl⟩ := Int.eq_ofNat_of_zero_le hx.1
  obtain ⟨h1, h2, h3⟩ := HpOk.parts.1 hp
  by_cases hk : s.kd i = -1
  · exact take_one2 b N i j k s w h hN h1 (by omega) hk h3
  · have hk2 : s.kd i = k := h2.resolve_left hk
    exact take_one1 b N i j k s w h hN h1 (by omega) hk2 (by rw [← hk2]; exact hk) h3
theorem take_f (b N : Nat) (s : HpS) (p : Blk) (w : World) (h : Hpb w b N s) (hN : N ≤ 64) (hx : 0 ≤ p.ix ∧ p.ix < 32) (hp : ¬ HpOk N s p) :
    Calls Tryz.prog 120 #[.pointer (some ⟨b, 0, none⟩), .agg #[.int .i64 p.pos, .int .i64 p.sz, .int .i64 p.ix]] w fun e w' => e = .returned (.bool false) ∧ Off (fun x => x = b) w w' := by
  by_cases hin : 0 ≤ p.pos ∧ p.pos < N
  · obtain ⟨q, k, x⟩ := p
    simp only at *
    obtain ⟨i, rfl⟩ := Int.eq_ofNat_of_zero_le hin.1
    obtain ⟨j, rfl⟩ := Int.eq_ofNat_of_zero_le hx.1
    rw [HpOk.parts] at hp
    by_cases hk : s.kd i = -1
    · have ht : s.tk i j = true := by
        cases e : s.tk i j with
        | true => rfl
        | false => exact absurd ⟨by omega, .inl hk, e⟩ hp
      exact take_word2 b N i j k s w h hN (by omega) (by omega) hk ht
    · by_cases hk2 : s.kd i = k
      · have ht : s.tk i j = true := by
          cases e : s.tk i j with
          | true => rfl
          | false => exact absurd ⟨by omega, .inr hk2, e⟩ hp
        exact take_word1 b N i j k s w h hN (by omega) (by omega) hk2 (by rw [← hk2]; exact hk) ht
      · exact (take_kind b N i j k s w h hN (by omega) (by omega) hk hk2).mono fun e w' ⟨h1, h2⟩ => ⟨h1, Off.of_below h2⟩
  · exact (take_out b N s p w h hN hin).mono fun e w' ⟨h1, h2⟩ => ⟨h1, Off.of_below h2⟩
end Go.Proofs.YtpbljjbhfhfmgaaGreatDoor
