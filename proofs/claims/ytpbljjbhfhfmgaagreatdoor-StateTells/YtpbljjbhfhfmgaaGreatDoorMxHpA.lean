/- HpA · HpB · RefGapA · RefPagB · RefPagD: these texts, one behind another. -/
import Derived.Test.YtpbljjbhfhfmgaaGreatDoorMxInfo
import Derived.Test.YtpbljjbhfhfmgaaGreatDoorMxTabA
import Derived.Test.YtpbljjbhfhfmgaaGreatDoorMxClsA
import Derived.Test.YtpbljjbhfhfmgaaGreatDoorMxGapA
import Derived.BigQuiet
import Derived.Deep.RegionHeld3
import Derived.Test.YtpbljjbhfhfmgaaGreatDoorMxGapE
import Derived.Deep.QuietTactic
import Derived.Test.YtpbljjbhfhfmgaaGreatDoorMxOff
import Derived.Laws.CopyOwn
/- pages.wholePages and pages.partsOf by their contracts. -/
namespace Go.Proofs.YtpbljjbhfhfmgaaGreatDoor
set_option maxRecDepth 100000
open Go.RowKit
set_option linter.unusedVariables false
set_option linter.unusedSimpArgs false
set_option maxRecDepth 100000

theorem info_prt : (Tryz.prog.info? 156).map (fun i => (i.zero, i.size, i.bytes)) = some (some (.agg #[.int .i64 0, .int .i64 0, .int .i64 0]), 3, 24) := by kernel_rfl
/-- A row of n parts at the head of a block of the call's own. -/
structure OwT3 (B : Nat) (w : World) (g n : Nat) (l : List Blk) : Prop where
  len : l.length = n
  at' : w.heap[g]? = some (.cells (cellsB l).toArray 156 (0, 0))
  low : B ≤ g
  rg : ∀ s ∈ l, RgB s
theorem OwT3.lt {B : Nat} {w : World} {g n : Nat} {l : List Blk} (h : OwT3 B w g n l) : g < w.heap.size := (Array.getElem?_eq_some_iff.1 h.at').1
theorem OwT3.bs {B : Nat} {w : World} {g n : Nat} {l : List Blk} (h : OwT3 B w g n l) : Bs w (some ⟨g, 0, none⟩) n n l := by
  refine ⟨h.len, Nat.le_refl _, (by intro h; cases h), fun _ => ⟨g, 0, rfl, h.lt, fun i hi => B3.of fun j u hu => ?_⟩, h.rg⟩
  have hj : j < 3 := (List.getElem?_eq_some_iff.1 hu).1
  rw [cell_of_row w g _ _ 156 (0, 0) h.at', List.getElem?_toArray, Nat.zero_add, cellsB_get l (by rw [h.len]; exact hi) hj]
  exact hu
theorem OwT3.free {B : Nat} {w : World} {g n : Nat} {l : List Blk} (h : OwT3 B w g n l) (k : Nat) : w.frozen? ⟨g, k, none⟩ = false := frozen_of_row w g k _ 156 h.at'
theorem OwT3.set {B : Nat} {w : World} {g n : Nat} {l : List Blk} (h : OwT3 B w g n l) {k : Nat} (hk : k < n) {s : Blk} (hs : RgB s) : OwT3 B (((w.setCell ⟨g, k * 3, none⟩ (.int .i64 s.pos)).setCell ⟨g, k * 3 + 1, none⟩ (.int .i64 s.sz)).setCell ⟨g, k * 3 + 2, none⟩ (.int .i64 s.ix)) g n (l.set k s) := by
  refine ⟨by rw [List.length_set]; exact h.len, ?_, h.low, fun x hx => ?_⟩
  · have h1 := heap_setCell_same w g (k * 3) _ 156 (.int .i64 s.pos) h.at'
    have h2 := heap_setCell_same _ g (k * 3 + 1) _ 156 (.int .i64 s.sz) h1
    rw [heap_setCell_same _ g (k * 3 + 2) _ 156 (.int .i64 s.ix) h2, cellsB_set l k s (by rw [h.len]; exact hk)]
    simp
  · rcases List.mem_or_eq_of_mem_set hx with hx | hx
    · exact h.rg x hx
    · rw [hx]; exact hs
theorem OwT3.kept {B : Nat} {w w' : World} {g n : Nat} {l : List Blk} (h : OwT3 B w g n l) (hb : Below w.heap.size w w') : OwT3 B w' g n l := ⟨h.len, (hb.block g h.lt).trans h.at', h.low, h.rg⟩
/-- '[]part{p}'. -/
theorem owT3_one (w : World) (s : Blk) (hs : RgB s) : OwT3 w.heap.size (w.alloc (.cells #[.int .i64 s.pos, .int .i64 s.sz, .int .i64 s.ix] 156)) w.heap.size 1 [s] :=
  ⟨rfl, heap_alloc_new w _, Nat.le_refl _, fun x hx => by rw [List.mem_singleton.1 hx]; exact hs⟩
/-- Parts of a large one, some still to be laid. -/
def lgQ (a : Int) (n k : Nat) : List Blk := (List.range n).map (fun i : Nat => if i < k then (⟨a + (i : Int), 7, 0⟩ : Blk) else ⟨0, 0, 0⟩)
theorem lgQ_len (a : Int) (n k : Nat) : (lgQ a n k).length = n := by simp [lgQ]
theorem lgQ_set (a : Int) (n k : Nat) : (lgQ a n k).set k ⟨a + (k : Int), 7, 0⟩ = lgQ a n (k + 1) := by
  apply List.ext_getElem?
  intro i
  rw [List.getElem?_set]
  by_cases e : k = i
  · subst e
    by_cases h : k < n
    · rw [if_pos rfl, if_pos (by rw [lgQ_len]; exact h)]
      simp [lgQ, h]
    · rw [if_pos rfl, if_neg (by rw [lgQ_len]; exact h)]
      simp [lgQ, h]
  · rw [if_neg e]
    by_cases h : i < n
    · simp only [lgQ, List.getElem?_map, List.getElem?_range h, Option.map_some]
      congr 1
      by_cases c : i < k
      · rw [if_pos c, if_pos (by omega)]
      · rw [if_neg c, if_neg (by omega)]
    · simp [lgQ, h]
theorem lgQ_all (a : Int) (n : Nat) : (lgQ a n n).set 0 ⟨a, 6, 0⟩ = lgP a n := by
  apply List.ext_getElem?
  intro i
  rw [List.getElem?_set]
  by_cases e : 0 = i
  · subst e
    by_cases h : 0 < n
    · rw [if_pos rfl, if_pos (by rw [lgQ_len]; exact h)]
      simp [lgP, h]
    · rw [if_pos rfl, if_neg (by rw [lgQ_len]; exact h)]
      simp [lgP, h]
  · rw [if_neg e]
    by_cases h : i < n
    · simp only [lgQ, lgP, List.getElem?_map, List.getElem?_range h, Option.map_some]
      rw [if_pos h, if_neg (fun x => e x.symm)]
    · simp [lgQ, lgP, h]
theorem ba_zero (a : Int) (n i : Nat) : ba (lgQ a n 0) i = Blk.z := by
  unfold ba
  by_cases h : i < n
  · simp [lgQ, List.getD, h, Blk.z]
  · simp [lgQ, List.getD, h, Blk.z]
theorem made_parts (a : Int) (n : Nat) : (madeCells #[Value.int .i64 0, .int .i64 0, .int .i64 0] (n * 3)).toList = cellsB (lgQ a n 0) := by
  apply List.ext_getElem?
  intro i
  by_cases hi : i < n * 3
  · have g2 := cellsB_get (lgQ a n 0) (i := i / 3) (j := i % 3) (by rw [lgQ_len]; omega) (Nat.mod_lt _ (by omega))
    rw [show i / 3 * 3 + i % 3 = i by omega] at g2
    rw [g2, ba_zero]
    rcases (show i % 3 = 0 ∨ i % 3 = 1 ∨ i % 3 = 2 by omega) with e1 | e1 | e1 <;>
      simp [madeCells, hi, e1, Blk.cells, Blk.z]
  · rw [List.getElem?_eq_none (by simp [madeCells]; omega), List.getElem?_eq_none (by rw [cellsB_length, lgQ_len]; omega)]
theorem own_t3 {B : Nat} {w : World} {g n : Nat} {l : List Blk} (h : w.ownsRow B 156 3 (.slice (some ⟨g, 0, none⟩) n n) n (cellsB l)) (hl : l.length = n) (hr : ∀ s ∈ l, RgB s) : OwT3 B w g n l := by
  rcases h.2 with ⟨hv, _⟩ | ⟨g', cap', cur, hv, hg, hh, hc, hm, hs, ht⟩
  · cases hv
  · simp only [Value.slice.injEq, Option.some.injEq, Addr.mk.injEq, and_true, true_and] at hv
    obtain ⟨rfl, rfl⟩ := hv
    refine ⟨hl, ?_, hg, hr⟩
    rw [hh]
    congr 2
    rw [List.take_of_length_le (by rw [Array.length_toList]; omega)] at ht
    rw [← ht]
theorem lgQ_rg {a : Int} {n k : Nat} (ha : Rg a) (ha' : Rg (a + n)) : ∀ s ∈ lgQ a n k, RgB s := by
  intro s hs
  simp only [lgQ, List.mem_map, List.mem_range] at hs
  obtain ⟨i, hi, rfl⟩ := hs
  unfold Rg at ha ha'
  split
  · refine ⟨?_, ?_, ?_⟩ <;> unfold Rg <;> simp only <;> omega
  · refine ⟨?_, ?_, ?_⟩ <;> unfold Rg <;> simp only <;> omega
theorem OwT3.first {B : Nat} {w : World} {g n : Nat} {a : Int} (h : OwT3 B w g n (lgQ a n n)) (hn : 0 < n) (ha : Rg a) : OwT3 B (w.setCell ⟨g, 1, none⟩ (.int .i64 6)) g n (lgP a n) := by
  refine ⟨by simp [lgP], ?_, h.low, fun s hs => ?_⟩
  · rw [heap_setCell_same w g 1 _ 156 (.int .i64 6) h.at', ← lgQ_all, cellsB_set _ 0 _ (by rw [lgQ_len]; exact hn)]
    congr 2
    apply Array.ext'
    rw [Array.toList_setIfInBounds]
    simp only [Nat.zero_mul, Nat.zero_add]
    have g0 := cellsB_get (lgQ a n n) (i := 0) (j := 0) (by rw [lgQ_len]; exact hn) (by omega)
    have g2 := cellsB_get (lgQ a n n) (i := 0) (j := 2) (by rw [lgQ_len]; exact hn) (by omega)
    have e : ba (lgQ a n n) 0 = ⟨a, 7, 0⟩ := by simp [ba, lgQ, List.getD, hn]
    rw [e] at g0 g2
    simp only [Nat.zero_mul, Nat.zero_add, Blk.cells] at g0 g2
    apply List.ext_getElem?
    intro i
    simp only [List.getElem?_set, List.length_set]
    by_cases h0 : i = 0
    · subst h0
      have : 0 < (cellsB (lgQ a n n)).length := (List.getElem?_eq_some_iff.1 g0).1
      simp [this]
      exact Option.some.inj ((List.getElem?_eq_getElem this).symm.trans g0)
    · by_cases h2 : i = 2
      · subst h2
        have : 2 < (cellsB (lgQ a n n)).length := (List.getElem?_eq_some_iff.1 g2).1
        simp [this]
        exact Option.some.inj ((List.getElem?_eq_getElem this).symm.trans g2)
      · simp [show ¬ 0 = i from fun x => h0 x.symm, show ¬ 2 = i from fun x => h2 x.symm]
  · rw [← lgQ_all] at hs
    rcases List.mem_or_eq_of_mem_set hs with hs | hs
    · exact h.rg s hs
    · rw [hs]
      exact ⟨ha, by unfold Rg; simp only; omega, by unfold Rg; simp only; omega⟩
set_option maxHeartbeats 1000000 in
theorem whole_any (a : Int) (n : Nat) (hn : 1 ≤ n ∧ n ≤ 8) (ha : Rg a) (ha' : Rg (a + n)) (w : World) :
    Calls Tryz.prog 135 #[.int .i64 a, .int .i64 n] w fun e w' => ∃ g, e = .returned (.slice (some ⟨g, 0, none⟩) n n) ∧ OwT3 w.heap.size w' g n (lgP a n) ∧ Below w.heap.size w w' := by
  obtain ⟨i0, hi, hz0, hz1, hz2⟩ := info_parts info_prt
  have HA := hid ha
  have HA' := hid ha'
  unfold Rg at ha ha'
  go_enter Tryz.func135, Tryz.ntmps135
  go_wp2_with (at_make; refine wpList_make_full _ rfl _ _ 164 rfl w.heap.size 156 i0 (.agg #[.int .i64 0, .int .i64 0, .int .i64 0]) 3 Tryz.underlying164 hi hz0 hz1 .i64 .i64 _ _ n rfl rfl rfl rfl ?b2 ?b3 ?b4 ?_)
  case b2 => rw [hz2]; omega
  case b3 => unfold maxLen; omega
  case b4 => exact Nat.le_refl _
  intro w1 hown hgrow
  have HO := hid (own_t3 (l := lgQ a n 0) (by rw [← made_parts]; exact hown) (lgQ_len _ _ _) (lgQ_rg HA.out HA'.out))
  have hbel : Below w.heap.size w w1 := (Below.refl _ _).grown hgrow (Nat.le_refl _) (by intro k hk; cases hk)
  clear hown hgrow hi hz0 hz1 hz2 i0
  go_wp2
  go_loopw [11] (fun s11 wr => ∃ k : Nat, k ≤ n ∧ s11 = .int .i64 k ∧ Hid (OwT3 w.heap.size wr w.heap.size n (lgQ a n k)) ∧ Below w.heap.size w wr) (fun s11 _ => n - (intOf s11).toNat)
  case atStart => exact ⟨0, Nat.zero_le _, rfl, HO, hbel⟩
  case round =>
    obtain ⟨k, hk, rfl, HO1, hb⟩ := hrel
    by_cases hlt : k < n
    · have hki : (k : Int) < (n : Int) := by omega
      have x1 : IntKind.i64.wrap (a + (k : Int)) = a + (k : Int) := IntWalk.i64_in _ ⟨by omega, by omega⟩
      obtain ⟨c0, c1, c2⟩ := HO1.out.bs.at (Below.refl _ _) hlt
      rw [Nat.zero_add] at c0 c1 c2
      have f0 := HO1.out.free (k * 3)
      have f1 := HO1.out.free (k * 3 + 1)
      have f2 := HO1.out.free (k * 3 + 2)
      have HS := hid (HO1.out.set hlt (s := ⟨a + (k : Int), 7, 0⟩) ⟨by unfold Rg; simp only; omega, by unfold Rg; simp only; omega, by unfold Rg; simp only; omega⟩)
      rw [lgQ_set] at HS
      have HB3 : Hid (∀ u v t, Below w.heap.size w (((wr.setCell ⟨w.heap.size, k * 3, none⟩ u).setCell ⟨w.heap.size, k * 3 + 1, none⟩ v).setCell ⟨w.heap.size, k * 3 + 2, none⟩ t)) := hid (fun u v t => ((hb.setCell (Nat.le_refl _) _).setCell (Nat.le_refl _) _).setCell (Nat.le_refl _) _)
      clear HO HO1
      go_wp2
      go_roundw
      case rel => exact ⟨k + 1, by omega, by go_num, HS, HB3.out _ _ _⟩
      case measure => simp [intOf]; omega
    · obtain rfl : k = n := by omega
      obtain ⟨c0, c1, c2⟩ := HO1.out.bs.at (Below.refl _ _) (show 0 < k by omega)
      have f1 := HO1.out.free 1
      have hk0 : (0 : Int) < (k : Int) := by omega
      have HS := hid (HO1.out.first (by omega) HA.out)
      have HB3 : Hid (∀ u, Below w.heap.size w (wr.setCell ⟨w.heap.size, 1, none⟩ u)) := hid (fun u => hb.setCell (Nat.le_refl _) _)
      clear HO HO1
      go_wp2
      go_ret
      exact ⟨w.heap.size, rfl, HS.out, HB3.out _⟩
theorem OwT3.mono {B B' : Nat} {w : World} {g n : Nat} {l : List Blk} (h : OwT3 B w g n l) (hB : B' ≤ B) : OwT3 B' w g n l := ⟨h.len, h.at', Nat.le_trans hB h.low, h.rg⟩
theorem prO_small {o : Spn} (h : SmP o) : prO o = [⟨o.pos.tdiv 32, clN o.sz, o.pos.tmod 32⟩] := prO_s h
set_option maxHeartbeats 1000000 in
theorem partsOf_any (o : Spn) (ho : RgP o) (w : World) (T : Cws w) :
    Calls Tryz.prog 129 #[.agg #[.int .i64 o.pos, .int .i64 o.sz]] w fun e w' => ∃ g n, e = .returned (.slice (some ⟨g, 0, none⟩) n n) ∧ OwT3 w.heap.size w' g n (prO o) ∧ Below w.heap.size w w' := by
  have hb0 : Below w.heap.size w (w.alloc (.cells #[.int .i64 o.pos, .int .i64 o.sz] 58)) := (Below.refl _ _).alloc (Nat.le_refl _) _
  have T0 := T.kept hb0
  obtain ⟨q1, q2, q3, q4, q5⟩ := tm32 o.pos
  have hp : -9223372036854775808 ≤ o.pos ∧ o.pos ≤ 9223372036854775807 := ho.1
  have HPR := hid (prO_ok ho.1)
  have y1 : IntKind.i64.wrap (o.pos.tdiv 32) = o.pos.tdiv 32 := IntWalk.i64_in _ ⟨by omega, by omega⟩
  have cO : ∀ w1, Below (w.alloc (.cells #[.int .i64 o.pos, .int .i64 o.sz] 58)).heap.size (w.alloc (.cells #[.int .i64 o.pos, .int .i64 o.sz] 58)) w1 → Calls Tryz.prog 132 #[.int .i64 o.sz] w1 fun e w' => e = .returned (.tuple #[.int .i64 (clN o.sz : Int), .bool (clB o.sz)]) ∧ w1 = w' := fun w1 hb => clsOf_any o.sz w1 (T0.kept hb)
  have cW : ∀ w1, Below (w.alloc (.cells #[.int .i64 o.pos, .int .i64 o.sz] 58)).heap.size (w.alloc (.cells #[.int .i64 o.pos, .int .i64 o.sz] 58)) w1 → Calls Tryz.prog 133 #[.int .i64 (clN o.sz : Int), .int .i64 (o.pos.tmod 32)] w1 fun e w' => e = .returned (.tuple #[.int .i64 (whN (clN o.sz) (o.pos.tmod 32)), .bool (whB (clN o.sz) (o.pos.tmod 32))]) ∧ w1 = w' := fun w1 hb => which_any _ _ (by omega) w1 (T0.kept hb)
  have cP : ∀ w1, Below (w.alloc (.cells #[.int .i64 o.pos, .int .i64 o.sz] 58)).heap.size (w.alloc (.cells #[.int .i64 o.pos, .int .i64 o.sz] 58)) w1 → Calls Tryz.prog 134 #[.int .i64 o.sz] w1 fun e w' => e = .returned (.tuple #[.int .i64 (pgN o.sz), .int .i64 (pgE o.sz)]) ∧ w1 = w' := fun w1 hb => pages_any o.sz w1 (T0.kept hb)
  have HB1 : Hid (∀ k, Below (w.alloc (.cells #[.int .i64 o.pos, .int .i64 o.sz] 58)).heap.size (w.alloc (.cells #[.int .i64 o.pos, .int .i64 o.sz] 58)) ((w.alloc (.cells #[.int .i64 o.pos, .int .i64 o.sz] 58)).drewN k)) := hid (fun k => below_drewN (Below.refl _ _) k)
  have HB2 : Hid (∀ k ob, Below w.heap.size w (((w.alloc (.cells #[.int .i64 o.pos, .int .i64 o.sz] 58)).drewN k).alloc ob)) := hid (fun k ob => (below_drewN hb0 k).alloc (by have := (below_drewN hb0 k).size; exact this) _)
  have HB3 := hid hb0
  have HON : Hid (∀ k (s : Blk), RgB s → OwT3 w.heap.size (((w.alloc (.cells #[.int .i64 o.pos, .int .i64 o.sz] 58)).drewN k).alloc (.cells #[.int .i64 s.pos, .int .i64 s.sz, .int .i64 s.ix] 156)) (w.heap.size + 1) 1 [s]) := hid (fun k s hs => by
    have := (owT3_one ((w.alloc (.cells #[.int .i64 o.pos, .int .i64 o.sz] 58)).drewN k) s hs).mono (show w.heap.size ≤ _ by simp)
    simpa using this)
  have HNW : Hid (RgB ⟨-1, 0, 0⟩) := hid ⟨by unfold Rg; simp only; omega, by unfold Rg; simp only; omega, by unfold Rg; simp only; omega⟩
  by_cases hs : 1 ≤ o.sz ∧ o.sz ≤ 120
  · rw [cl_b hs] at cO
    by_cases hw : WhOk (clN o.sz) (o.pos.tmod 32)
    · rw [(wh_t hw).2] at cW
      have HE := hid (prO_s (o := o) ⟨hs, hw⟩)
      have HRG := hid (HPR.out ⟨o.pos.tdiv 32, clN o.sz, o.pos.tmod 32⟩ (by rw [HE.out]; simp)).2
      clear HPR T T0 ho hw hb0 cP q1 q2 q3 q4 q5
      obtain ⟨p, z⟩ := o
      simp only at *
      go_enter Tryz.func129, Tryz.ntmps129
      go_wp2
      go_quiet (fail)
      go_wp2_with (first
        | (go_at_call 132; with_reducible refine (cO _ (HB1.out _)).mono ?_; rintro e w' ⟨rfl, rfl⟩)
        | (go_at_call 133; with_reducible refine (cW _ (HB1.out _)).mono ?_; rintro e w' ⟨rfl, rfl⟩))
      go_ret
      exact ⟨w.heap.size + 1, 1, rfl, by rw [HE.out]; exact HON.out _ _ HRG.out, HB2.out _ _⟩
    · rw [(wh_f hw).2] at cW
      have HE := hid (prO_n (o := o) (fun c => hw c.2) (fun c => by have := c.1; omega))
      have hpe : pgE o.sz = 1 := (pg_f (by omega)).2
      rw [hpe] at cP
      clear HPR T T0 ho hw hb0 hpe q1 q2 q3 q4 q5
      obtain ⟨p, z⟩ := o
      simp only at *
      go_enter Tryz.func129, Tryz.ntmps129
      go_wp2
      go_quiet (fail)
      go_wp2_with (first
        | (go_at_call 132; with_reducible refine (cO _ (HB1.out _)).mono ?_; rintro e w' ⟨rfl, rfl⟩)
        | (go_at_call 133; with_reducible refine (cW _ (HB1.out _)).mono ?_; rintro e w' ⟨rfl, rfl⟩)
        | (go_at_call 134; with_reducible refine (cP _ (HB1.out _)).mono ?_; rintro e w' ⟨rfl, rfl⟩))
      go_ret
      exact ⟨w.heap.size + 1, 1, rfl, by rw [HE.out]; exact HON.out _ _ HNW.out, HB2.out _ _⟩
  · rw [(cl_f hs).2] at cO
    by_cases hg : 120 < o.sz ∧ o.sz ≤ 2048
    · have hpe : pgE o.sz = 0 := (pg_t hg).2
      rw [hpe] at cP
      by_cases h0 : o.pos.tmod 32 = 0
      · have HE := hid (prO_l (o := o) ⟨hg, h0⟩)
        have hd : (o.pos.tmod 32 == 0) = true := by simpa using h0
        obtain ⟨m, hm⟩ : ∃ m : Nat, pgN o.sz = m := ⟨(pgN o.sz).toNat, by have := pgN_in hg; omega⟩
        have hm8 := pgN_in hg
        rw [hm] at cP hm8
        have cH : ∀ w1, Calls Tryz.prog 135 #[.int .i64 (o.pos.tdiv 32), .int .i64 m] w1 fun e w' => ∃ g, e = .returned (.slice (some ⟨g, 0, none⟩) m m) ∧ OwT3 w1.heap.size w' g m (lgP (o.pos.tdiv 32) m) ∧ Below w1.heap.size w1 w' := fun w1 => whole_any _ m ⟨by omega, by omega⟩ (by unfold Rg; omega) (by unfold Rg; omega) w1
        have HEM : Hid (prO o = lgP (o.pos.tdiv 32) m) := hid (by rw [HE.out, hm, Int.toNat_natCast])
        have HBX : Hid (∀ k w', Below ((w.alloc (.cells #[.int .i64 o.pos, .int .i64 o.sz] 58)).drewN k).heap.size ((w.alloc (.cells #[.int .i64 o.pos, .int .i64 o.sz] 58)).drewN k) w' → Below w.heap.size w w') := hid (fun k w' hb => next (below_drewN HB3.out k) hb)
        clear HPR T T0 ho hb0 hpe HE hm h0 cW q1 q2 q3 q4 q5
        obtain ⟨p, z⟩ := o
        simp only at *
        go_enter Tryz.func129, Tryz.ntmps129
        go_wp2
        go_quiet (fail)
        go_wp2_with (first
          | (go_at_call 132; with_reducible refine (cO _ (HB1.out _)).mono ?_; rintro e w' ⟨rfl, rfl⟩)
          | (go_at_call 134; with_reducible refine (cP _ (HB1.out _)).mono ?_; rintro e w' ⟨rfl, rfl⟩)
          | (go_at_call 135; with_reducible refine (cH _).mono ?_; rintro e w2 ⟨g, rfl, ho2, hb2⟩; have HO2 := hid ho2; have HBB := hid (HBX.out _ _ hb2); clear ho2 hb2))
        go_ret
        exact ⟨g, m, rfl, by rw [HEM.out]; exact HO2.out.mono (by simp), HBB.out⟩
      · have HE := hid (prO_n (o := o) (fun c => hs c.1) (fun c => h0 c.2))
        have hd : (o.pos.tmod 32 == 0) = false := by simpa using h0
        clear HPR T T0 ho hb0 hpe h0 cW q1 q2 q3 q4 q5
        obtain ⟨p, z⟩ := o
        simp only at *
        go_enter Tryz.func129, Tryz.ntmps129
        go_wp2
        go_quiet (fail)
        go_wp2_with (first
          | (go_at_call 132; with_reducible refine (cO _ (HB1.out _)).mono ?_; rintro e w' ⟨rfl, rfl⟩)
          | (go_at_call 134; with_reducible refine (cP _ (HB1.out _)).mono ?_; rintro e w' ⟨rfl, rfl⟩))
        go_ret
        exact ⟨w.heap.size + 1, 1, rfl, by rw [HE.out]; exact HON.out _ _ HNW.out, HB2.out _ _⟩
    · have HE := hid (prO_n (o := o) (fun c => hs c.1) (fun c => hg c.1))
      have hpe : pgE o.sz = 1 := (pg_f hg).2
      rw [hpe] at cP
      clear HPR T T0 ho hb0 hpe cW q1 q2 q3 q4 q5
      obtain ⟨p, z⟩ := o
      simp only at *
      go_enter Tryz.func129, Tryz.ntmps129
      go_wp2
      go_quiet (fail)
      go_wp2_with (first
        | (go_at_call 132; with_reducible refine (cO _ (HB1.out _)).mono ?_; rintro e w' ⟨rfl, rfl⟩)
        | (go_at_call 134; with_reducible refine (cP _ (HB1.out _)).mono ?_; rintro e w' ⟨rfl, rfl⟩))
      go_ret
      exact ⟨w.heap.size + 1, 1, rfl, by rw [HE.out]; exact HON.out _ _ HNW.out, HB2.out _ _⟩
end Go.Proofs.YtpbljjbhfhfmgaaGreatDoor
/- pages' take by its contract. -/
namespace Go.Proofs.YtpbljjbhfhfmgaaGreatDoor
set_option maxRecDepth 100000
open Go.RowKit
set_option linter.unusedVariables false
set_option linter.unusedSimpArgs false
set_option maxRecDepth 100000

theorem HpOk.parts {N : Nat} {s : HpS} {i j : Nat} {k : Int} : HpOk N s ⟨(i : Int), k, (j : Int)⟩ ↔ i < N ∧ (s.kd i = -1 ∨ s.kd i = k) ∧ s.tk i j = false := by
  unfold HpOk
  simp only [Int.toNat_natCast]
  constructor
  · rintro ⟨h1, h2, h3⟩; exact ⟨by omega, h2, h3⟩
  · rintro ⟨h1, h2, h3⟩; exact ⟨⟨by omega, by omega⟩, h2, h3⟩
def prtO (p : Blk) : Obj := .cells #[.int .i64 p.pos, .int .i64 p.sz, .int .i64 p.ix] 156
theorem take_out (b N : Nat) (s : HpS) (p : Blk) (w : World) (h : Hpb w b N s) (hN : N ≤ 64) (hp : ¬ (0 ≤ p.pos ∧ p.pos < N)) :
    Calls Tryz.prog 120 #[.pointer (some ⟨b, 0, none⟩), .agg #[.int .i64 p.pos, .int .i64 p.sz, .int .i64 p.ix]] w fun e w' => e = .returned (.bool false) ∧ Below w.heap.size w w' := by
  have hb0 : Below w.heap.size w (w.alloc (.cells #[.int .i64 p.pos, .int .i64 p.sz, .int .i64 p.ix] 156)) := (Below.refl _ _).alloc (Nat.le_refl _) _
  have h1 := h.kept hb0
  have c9 := h1.count
  have hlt := h.lt
  clear h h1
  obtain ⟨p, k, x⟩ := p
  simp only at *
  by_cases hneg : p < 0
  · have hd : decide (p < 0) = true := decide_eq_true hneg
    go_enter Tryz.func120, Tryz.ntmps120
    go_wp2
    go_quiet (fail)
    go_wp2
    go_ret
    exact ⟨rfl, below_drewN hb0 _⟩
  · have hd : decide (p < 0) = false := decide_eq_false hneg
    have hge : (N : Int) ≤ p := by omega
    have hd2 : decide ((N : Int) ≤ p) = true := decide_eq_true hge
    go_enter Tryz.func120, Tryz.ntmps120
    go_wp2
    go_quiet (fail)
    go_wp2
    go_ret
    exact ⟨rfl, below_drewN hb0 _⟩
set_option maxHeartbeats 1000000 in
theorem take_kind (b N i j : Nat) (k : Int) (s : HpS) (w : World) (h : Hpb w b N s) (hN : N ≤ 64) (hi : i < N) (hj : j < 32) (hk : s.kd i ≠ -1) (hk2 : s.kd i ≠ k) :
    Calls Tryz.prog 120 #[.pointer (some ⟨b, 0, none⟩), .agg #[.int .i64 (i : Int), .int .i64 k, .int .i64 (j : Int)]] w fun e w' => e = .returned (.bool false) ∧ Below w.heap.size w w' := by
  have hb0 : Below w.heap.size w (w.alloc (.cells #[.int .i64 (i : Int), .int .i64 k, .int .i64 (j : Int)] 156)) := (Below.refl _ _).alloc (Nat.le_refl _) _
  have h1 := h.kept hb0
  have c9 := h1.count
  have c0 := h1.kind hi hN
  have H1 := hid h1
  have HB := hid hb0
  have hlt := h.lt
  have hd1 : decide ((i : Int) < 0) = false := decide_eq_false (by omega)
  have hd1' : ¬ ((i : Int) < 0) := by omega
  have hd2 : decide ((N : Int) ≤ (i : Int)) = false := decide_eq_false (by omega)
  have hd2' : ¬ ((N : Int) ≤ (i : Int)) := by omega
  have hd2'' : ¬ (N ≤ i) := by omega
  have hi64 : (i : Int) < 64 := by omega
  have hi64' : i < 64 := by omega
  generalize s.kd i = v at *
  have hd3 : (v == -1) = false := by simpa using hk
  have hd4 : (v != k) = true := by simpa using hk2
  clear h h1 hk hk2
  go_enter Tryz.func120, Tryz.ntmps120
  go_wp2
  go_quiet (fail)
  go_wp2
  go_quiet (fail)
  go_wp2
  go_quiet (fail)
  go_wp2
  go_ret
  exact ⟨rfl, below_drewN (below_drewN hb0 _) _⟩
set_option maxHeartbeats 1000000 in
theorem take_word1 (b N i j : Nat) (k : Int) (s : HpS) (w : World) (h : Hpb w b N s) (hN : N ≤ 64) (hi : i < N) (hj : j < 32) (hk : s.kd i = k) (hk1 : k ≠ -1) (ht : s.tk i j = true) :
    Calls Tryz.prog 120 #[.pointer (some ⟨b, 0, none⟩), .agg #[.int .i64 (i : Int), .int .i64 k, .int .i64 (j : Int)]] w fun e w' => e = .returned (.bool false) ∧ Off (fun x => x = b) w w' := by
  have hb0 : Below w.heap.size w (w.alloc (.cells #[.int .i64 (i : Int), .int .i64 k, .int .i64 (j : Int)] 156)) := (Below.refl _ _).alloc (Nat.le_refl _) _
  have h1 := h.kept hb0
  have c9 := h1.count
  have c0 := h1.kind hi hN
  have c1 := h1.word (show i < 64 by omega) hj
  have f0 := h1.free (i * 33)
  have f1 := h1.free (i * 33 + 1 + j)
  have H1 := hid h1
  have HB := hid hb0
  have hlt := h.lt
  have hd1 : decide ((i : Int) < 0) = false := decide_eq_false (by omega)
  have hd1' : ¬ ((i : Int) < 0) := by omega
  have hd2 : decide ((N : Int) ≤ (i : Int)) = false := decide_eq_false (by omega)
  have hd2' : ¬ ((N : Int) ≤ (i : Int)) := by omega
  have hd2'' : ¬ (N ≤ i) := by omega
  have hi64 : (i : Int) < 64 := by omega
  have hi64' : i < 64 := by omega
  have hj32 : (j : Int) < 32 := by omega
  have hne : b ≠ w.heap.size := by omega
  have hne2 : i * 33 + 1 + j ≠ i * 33 := by omega
  have hne3 : i * 33 ≠ i * 33 + 1 + j := by omega
  rw [hk] at c0
  rw [ht] at c1
  have hd3 : (k == -1) = false := by simpa using hk1
  have hd4 : (k != k) = false := by simp
  clear h h1 hk hk1 ht
  go_enter Tryz.func120, Tryz.ntmps120
  go_wp2
  go_quiet (fail)
  go_wp2
  go_quiet (fail)
  go_wp2
  go_quiet (fail)
  go_wp2
  go_ret
  exact ⟨rfl, Off.of_below (below_drewN (below_drewN hb0 _) _)⟩
set_option maxHeartbeats 1000000 in
theorem take_word2 (b N i j : Nat) (k : Int) (s : HpS) (w : World) (h : Hpb w b N s) (hN : N ≤ 64) (hi : i < N) (hj : j < 32) (hk : s.kd i = -1) (ht : s.tk i j = true) :
    Calls Tryz.prog 120 #[.pointer (some ⟨b, 0, none⟩), .agg #[.int .i64 (i : Int), .int .i64 k, .int .i64 (j : Int)]] w fun e w' => e = .returned (.bool false) ∧ Off (fun x => x = b) w w' := by
  have hb0 : Below w.heap.size w (w.alloc (.cells #[.int .i64 (i : Int), .int .i64 k, .int .i64 (j : Int)] 156)) := (Below.refl _ _).alloc (Nat.le_refl _) _
  have h1 := h.kept hb0
  have c9 := h1.count
  have c0 := h1.kind hi hN
  have c1 := h1.word (show i < 64 by omega) hj
  have f0 := h1.free (i * 33)
  have f1 := h1.free (i * 33 + 1 + j)
  have H1 := hid h1
  have HB := hid hb0
  have hlt := h.lt
  have hd1 : decide ((i : Int) < 0) = false := decide_eq_false (by omega)
  have hd1' : ¬ ((i : Int) < 0) := by omega
  have hd2 : decide ((N : Int) ≤ (i : Int)) = false := decide_eq_false (by omega)
  have hd2' : ¬ ((N : Int) ≤ (i : Int)) := by omega
  have hd2'' : ¬ (N ≤ i) := by omega
  have hi64 : (i : Int) < 64 := by omega
  have hi64' : i < 64 := by omega
  have hj32 : (j : Int) < 32 := by omega
  have hne : b ≠ w.heap.size := by omega
  have hne2 : i * 33 + 1 + j ≠ i * 33 := by omega
  have hne3 : i * 33 ≠ i * 33 + 1 + j := by omega
  rw [hk] at c0
  rw [ht] at c1
  have hd4 : (k != k) = false := by simp
  clear h h1 hk ht
  go_enter Tryz.func120, Tryz.ntmps120
  go_wp2
  go_quiet (fail)
  go_wp2
  go_quiet (fail)
  go_wp2
  go_quiet (fail)
  go_wp2
  go_ret
  exact ⟨rfl, ((((Off.of_below (F := fun x => x = b) HB.out).drewN _).setCell ⟨b, i * 33, none⟩ _ rfl).drewN _)⟩
set_option maxHeartbeats 1000000 in
theorem take_one1 (b N i j : Nat) (k : Int) (s : HpS) (w : World) (h : Hpb w b N s) (hN : N ≤ 64) (hi : i < N) (hj : j < 32) (hk : s.kd i = k) (hk1 : k ≠ -1) (ht : s.tk i j = false) :
    Calls Tryz.prog 120 #[.pointer (some ⟨b, 0, none⟩), .agg #[.int .i64 (i : Int), .int .i64 k, .int .i64 (j : Int)]] w fun e w' => e = .returned (.bool true) ∧ Hpb w' b N (s.put ⟨(i : Int), k, (j : Int)⟩) ∧ Off (fun x => x = b) w w' := by
  have hb0 : Below w.heap.size w (w.alloc (.cells #[.int .i64 (i : Int), .int .i64 k, .int .i64 (j : Int)] 156)) := (Below.refl _ _).alloc (Nat.le_refl _) _
  have h1 := h.kept hb0
  have c9 := h1.count
  have c0 := h1.kind hi hN
  have c1 := h1.word (show i < 64 by omega) hj
  have f0 := h1.free (i * 33)
  have f1 := h1.free (i * 33 + 1 + j)
  have H1 := hid h1
  have HB := hid hb0
  have hlt := h.lt
  have hd1 : decide ((i : Int) < 0) = false := decide_eq_false (by omega)
  have hd1' : ¬ ((i : Int) < 0) := by omega
  have hd2 : decide ((N : Int) ≤ (i : Int)) = false := decide_eq_false (by omega)
  have hd2' : ¬ ((N : Int) ≤ (i : Int)) := by omega
  have hd2'' : ¬ (N ≤ i) := by omega
  have hi64 : (i : Int) < 64 := by omega
  have hi64' : i < 64 := by omega
  have hj32 : (j : Int) < 32 := by omega
  have hne : b ≠ w.heap.size := by omega
  have hne2 : i * 33 + 1 + j ≠ i * 33 := by omega
  have hne3 : i * 33 ≠ i * 33 + 1 + j := by omega
  rw [hk] at c0
  rw [ht] at c1
  have hd3 : (k == -1) = false := by simpa using hk1
  have hd4 : (k != k) = false := by simp
  have HK := hid hk
  clear h h1 hk hk1 ht
  go_enter Tryz.func120, Tryz.ntmps120
  go_wp2
  go_quiet (fail)
  go_wp2
  go_quiet (fail)
  go_wp2
  go_quiet (fail)
  go_wp2
  go_region
  all_goals go_wp2
  go_ret
  refine ⟨rfl, ?_, ((Off.of_below (F := fun x => x = b) HB.out).drewN _).setCell _ _ rfl⟩
  refine ((H1.out.kept (below_drewN (Below.refl _ _) _)).setW hi64' hj).eq (fun x hx => ?_) (fun x y _ _ => rfl)
  show s.kd x = if x = i then k else s.kd x
  by_cases e : x = i
  · rw [if_pos e, e]; exact HK.out
  · rw [if_neg e]
set_option maxHeartbeats 1000000 in
theorem take_one2 (b N i j : Nat) (k : Int) (s : HpS) (w : World) (h : Hpb w b N s) (hN : N ≤ 64) (hi : i < N) (hj : j < 32) (hk : s.kd i = -1) (ht : s.tk i j = false) :
    Calls Tryz.prog 120 #[.pointer (some ⟨b, 0, none⟩), .agg #[.int .i64 (i : Int), .int .i64 k, .int .i64 (j : Int)]] w fun e w' => e = .returned (.bool true) ∧ Hpb w' b N (s.put ⟨(i : Int), k, (j : Int)⟩) ∧ Off (fun x => x = b) w w' := by
  have hb0 : Below w.heap.size w (w.alloc (.cells #[.int .i64 (i : Int), .int .i64 k, .int .i64 (j : Int)] 156)) := (Below.refl _ _).alloc (Nat.le_refl _) _
  have h1 := h.kept hb0
  have c9 := h1.count
  have c0 := h1.kind hi hN
  have c1 := h1.word (show i < 64 by omega) hj
  have f0 := h1.free (i * 33)
  have f1 := h1.free (i * 33 + 1 + j)
  have H1 := hid h1
  have HB := hid hb0
  have hlt := h.lt
  have hd1 : decide ((i : Int) < 0) = false := decide_eq_false (by omega)
  have hd1' : ¬ ((i : Int) < 0) := by omega
  have hd2 : decide ((N : Int) ≤ (i : Int)) = false := decide_eq_false (by omega)
  have hd2' : ¬ ((N : Int) ≤ (i : Int)) := by omega
  have hd2'' : ¬ (N ≤ i) := by omega
  have hi64 : (i : Int) < 64 := by omega
  have hi64' : i < 64 := by omega
  have hj32 : (j : Int) < 32 := by omega
  have hne : b ≠ w.heap.size := by omega
  have hne2 : i * 33 + 1 + j ≠ i * 33 := by omega
  have hne3 : i * 33 ≠ i * 33 + 1 + j := by omega
  rw [hk] at c0
  rw [ht] at c1
  have hd4 : (k != k) = false := by simp
  clear h h1 hk ht
  go_enter Tryz.func120, Tryz.ntmps120
  go_wp2
  go_quiet (fail)
  go_wp2
  go_quiet (fail)
  go_wp2
  go_quiet (fail)
  go_wp2
  go_region
  all_goals go_wp2
  go_ret
  exact ⟨rfl, (((H1.out.kept (below_drewN (Below.refl _ _) _)).setK hi hN k).kept (below_drewN (Below.refl _ _) _)).setW hi64' hj, ((((Off.of_below (F := fun x => x = b) HB.out).drewN _).setCell ⟨b, i * 33, none⟩ _ rfl).drewN _).setCell ⟨b, i * 33 + 1 + j, none⟩ _ rfl⟩
/-- A part taken; one that can't be. -/
theorem take_t (b N : Nat) (s : HpS) (p : Blk) (w : World) (h : Hpb w b N s) (hN : N ≤ 64) (hx : 0 ≤ p.ix ∧ p.ix < 32) (hz : p.sz ≠ -1) (hp : HpOk N s p) :
    Calls Tryz.prog 120 #[.pointer (some ⟨b, 0, none⟩), .agg #[.int .i64 p.pos, .int .i64 p.sz, .int .i64 p.ix]] w fun e w' => e = .returned (.bool true) ∧ Hpb w' b N (s.put p) ∧ Off (fun x => x = b) w w' := by
  obtain ⟨q, k, x⟩ := p
  simp only at *
  obtain ⟨i, rfl⟩ := Int.eq_ofNat_of_zero_le hp.1.1
  obtain ⟨j, rfl⟩ := Int.eq_ofNat_of_zero_le hx.1
  obtain ⟨h1, h2, h3⟩ := HpOk.parts.1 hp
  by_cases hk : s.kd i = -1
  · exact take_one2 b N i j k s w h hN h1 (by omega) hk h3
  · have hk2 : s.kd i = k := h2.resolve_left hk
    exact take_one1 b N i j k s w h hN h1 (by omega) hk2 (by rw [← hk2]; exact hk) h3
theorem take_f (b N : Nat) (s : HpS) (p : Blk) (w : World) (h : Hpb w b N s) (hN : N ≤ 64) (hx : 0 ≤ p.ix ∧ p.ix < 32) (hp : ¬ HpOk N s p) :
    Calls Tryz.prog 120 #[.pointer (some ⟨b, 0, none⟩), .agg #[.int .i64 p.pos, .int .i64 p.sz, .int .i64 p.ix]] w fun e w' => e = .returned (.bool false) ∧ Off (fun x => x = b) w w' := by
  by_cases hin : 0 ≤ p.pos ∧ p.pos < N
  · obtain ⟨q, k, x⟩ := p
    simp only at *
    obtain ⟨i, rfl⟩ := Int.eq_ofNat_of_zero_le hin.1
    obtain ⟨j, rfl⟩ := Int.eq_ofNat_of_zero_le hx.1
    rw [HpOk.parts] at hp
    by_cases hk : s.kd i = -1
    · have ht : s.tk i j = true := by
        cases e : s.tk i j with
        | true => rfl
        | false => exact absurd ⟨by omega, .inl hk, e⟩ hp
      exact take_word2 b N i j k s w h hN (by omega) (by omega) hk ht
    · by_cases hk2 : s.kd i = k
      · have ht : s.tk i j = true := by
          cases e : s.tk i j with
          | true => rfl
          | false => exact absurd ⟨by omega, .inr hk2, e⟩ hp
        exact take_word1 b N i j k s w h hN (by omega) (by omega) hk2 (by rw [← hk2]; exact hk) ht
      · exact (take_kind b N i j k s w h hN (by omega) (by omega) hk hk2).mono fun e w' ⟨h1, h2⟩ => ⟨h1, Off.of_below h2⟩
  · exact (take_out b N s p w h hN hin).mono fun e w' ⟨h1, h2⟩ => ⟨h1, Off.of_below h2⟩
end Go.Proofs.YtpbljjbhfhfmgaaGreatDoor
/- joistref10.Best, Need, Same by their contracts. -/
namespace Go.Proofs.YtpbljjbhfhfmgaaGreatDoor
set_option maxRecDepth 100000
open Go.RowKit
set_option linter.unusedVariables false
set_option linter.unusedSimpArgs false
set_option maxRecDepth 100000

theorem rneed_any (n : Int) (w : World) :
    Calls Tryz.prog 43 #[.int .i64 n] w fun e w' => e = .returned (.tuple #[.int .i64 (ndN n), .int .i64 (ndE n)]) ∧ w = w' := by
  by_cases h : 1 ≤ n ∧ n ≤ 2048
  · obtain ⟨e1, e2⟩ := nd_t h
    rw [e1, e2]
    have a1 : ¬ n < 1 := by omega
    have a2 : ¬ 2048 < n := by omega
    have w1 : IntKind.i64.wrap (n + 7) = n + 7 := IntWalk.i64_in _ ⟨by omega, by omega⟩
    obtain ⟨q, hq⟩ : ∃ q, (n + 7) / 8 = q := ⟨_, rfl⟩
    have q0 : 0 ≤ q := by omega
    have q1 : q ≤ 300 := by omega
    have n0 : 0 ≤ n + 7 := by omega
    obtain ⟨r, hr⟩ : ∃ r, (2 + (n + 7) / 8 + 3) / 4 * 4 = r := ⟨_, rfl⟩
    rw [hr]
    have HR : Hid (∀ v, 2 + q ≤ v → v ≤ r → v % 4 = 0 → v = r) := hid (fun v h1 h2 h3 => by omega)
    have HS : Hid (2 + q ≤ r ∧ r % 4 = 0 ∧ r ≤ 400) := hid (by omega)
    clear h e1 e2
    go_enter Tryz.func43, Tryz.ntmps43
    go_wp2
    clear hr hq a1 a2 w1
    go_loopw [4] (fun s4 wr => ∃ v : Int, s4 = .int .i64 v ∧ 2 + q ≤ v ∧ v ≤ r ∧ w = wr) (fun s4 _ => (r - intOf s4).toNat)
    case atStart => exact ⟨2 + q, rfl, Int.le_refl _, HS.out.1, rfl⟩
    case round =>
      obtain ⟨v, rfl, v1, v2, rfl⟩ := hrel
      by_cases hv : v % 4 = 0
      · obtain rfl := HR.out v v1 v2 hv
        have u : (v % 4 != 0) = false := by simpa using hv
        have v3 : v ≤ 400 := HS.out.2.2
        clear HR HS hv
        go_wp2
        go_ret2
        exact ⟨rfl, rfl⟩
      · have u : (v % 4 != 0) = true := by simpa using hv
        have hlt : v + 1 ≤ r := by
          by_cases e : v = r
          · have := HS.out.2.1; rw [← e] at this; exact absurd this hv
          · omega
        have v3 : v ≤ 400 := by have := HS.out.2.2; omega
        have v0 : 0 ≤ v := by omega
        clear hv HR HS
        go_wp2
        go_roundw
        case rel => exact ⟨v + 1, rfl, by omega, hlt, trivial⟩
        case measure => simp [intOf]; omega
  · obtain ⟨e1, e2⟩ := nd_f h
    rw [e1, e2]
    go_enter Tryz.func43, Tryz.ntmps43
    by_cases h2 : n < 1
    · go_wp2
      go_ret2
      exact ⟨rfl, rfl⟩
    · have h3 : 2048 < n := by omega
      go_wp2
      go_ret2
      exact ⟨rfl, rfl⟩
def samP (l m : List Spn) : Bool := decide (l = m)
theorem samP_t {l m : List Spn} (h : l = m) : samP l m = true := decide_eq_true h
theorem samP_f {l m : List Spn} (h : ¬ l = m) : samP l m = false := decide_eq_false h
/-- Where two spans part. -/
theorem spn_part {s t : Spn} (h : ¬ s = t) : (s.pos == t.pos) = false ∨ (s.pos = t.pos ∧ (s.sz == t.sz) = false) := by
  by_cases h0 : s.pos = t.pos
  · have h1 : ¬ s.sz = t.sz := fun h1 => h (Spn.ext' h0 h1)
    exact .inr ⟨h0, by simpa using h1⟩
  · exact .inl (by simpa using h0)
/-- Where two spans stand to each other. -/
theorem btr_cases (s u : Spn) : (decide (s.sz < u.sz) = true ∧ BtrP s u) ∨ (decide (s.sz < u.sz) = false ∧ (s.sz == u.sz) = false ∧ ¬ BtrP s u) ∨ (decide (s.sz < u.sz) = false ∧ (s.sz == u.sz) = true ∧ decide (s.pos < u.pos) = true ∧ BtrP s u) ∨ (decide (s.sz < u.sz) = false ∧ (s.sz == u.sz) = true ∧ decide (s.pos < u.pos) = false ∧ ¬ BtrP s u) := by
  unfold BtrP
  by_cases a : s.sz < u.sz
  · exact .inl ⟨decide_eq_true a, .inl a⟩
  · by_cases b : s.sz = u.sz
    · by_cases c : s.pos < u.pos
      · exact .inr (.inr (.inl ⟨decide_eq_false a, by simpa using b, decide_eq_true c, .inr ⟨b, c⟩⟩))
      · exact .inr (.inr (.inr ⟨decide_eq_false a, by simpa using b, decide_eq_false c, by omega⟩))
    · exact .inr (.inl ⟨decide_eq_false a, by simpa using b, by omega⟩)
end Go.Proofs.YtpbljjbhfhfmgaaGreatDoor
/- joistref13.taken, Runs, Best by their contracts. -/
namespace Go.Proofs.YtpbljjbhfhfmgaaGreatDoor
set_option maxRecDepth 100000
open Go.RowKit
set_option linter.unusedVariables false
set_option linter.unusedSimpArgs false
set_option maxRecDepth 100000

theorem ps_span (w : World) (k : Nat) (s : Spn) (hk : w.heap.size = k) (hs : RgP s) : Ps (w.alloc (.cells #[.int .i64 s.pos, .int .i64 s.sz] 104)) (some ⟨k, 0, none⟩) 1 1 [s] := by
  subst hk
  refine ⟨rfl, Nat.le_refl _, (by intro h; cases h), fun _ => ⟨w.heap.size, 0, rfl, by simp, fun i hi => ?_⟩, fun x hx => by rw [List.mem_singleton.1 hx]; exact hs⟩
  obtain rfl : i = 0 := by omega
  exact (bxP_new w s).p2

theorem Sl.kat {w wr : World} {b off n cap : Nat} {zs : List Int} (h : Sl .i64 w (some ⟨b, off, none⟩) n cap zs) (hb : Below w.heap.size w wr) {i : Nat} (hi : i < n) : wr.cell? ⟨b, off + i, none⟩ = some (.int .i64 (ka zs i)) := by
  obtain ⟨b', o', e, _, hc⟩ := (h.below hb).here (by omega)
  simp only [Option.some.injEq, Addr.mk.injEq, and_true] at e
  obtain ⟨rfl, rfl⟩ := e
  exact hc i hi

end Go.Proofs.YtpbljjbhfhfmgaaGreatDoor
/- joistref13.Kinds by its contract. -/
namespace Go.Proofs.YtpbljjbhfhfmgaaGreatDoor
set_option maxRecDepth 100000
open Go.RowKit
set_option linter.unusedVariables false
set_option linter.unusedSimpArgs false
set_option maxRecDepth 100000

set_option maxHeartbeats 4000000 in
theorem rkinds_in (N : Nat) (hN : N ≤ 64) (ao : Option Addr) (n cap : Nat) (l : List Spn) (w : World) (h : Ps w ao n cap l) (hn : n ≤ 9223372036854775807) :
    Calls Tryz.prog 54 #[.int .i64 N, .slice ao n cap] w fun e w' => ∃ bo m c, e = .returned (.tuple #[.slice bo m c, .bool (rtO N l)]) ∧ Own .i64 3 w.heap.size w' bo m c (kzL N l) ∧ Below w.heap.size w w' := by
  have hl := h.len
  obtain ⟨i0, hi, hz0, hz1, hz2⟩ := info_parts Tryz.info3
  have hN1 : (N : Int) ≤ 64 := by omega
  have HRN : Hid (RightO N []) := hid (RightO.nil ⟨by omega, by omega⟩)
  have HFA : Hid (∀ w', Below w.heap.size w w' → ∀ k, ¬ RightO N (l.take k) → ∃ bo m c, Ending.returned (.tuple #[.slice none 0 0, .bool false]) = .returned (.tuple #[.slice bo m c, .bool (rtO N l)]) ∧ Own .i64 3 w.heap.size w' bo m c (kzL N l) ∧ Below w.heap.size w w') := hid (fun w' hb k hk => by
    obtain ⟨e1, e2⟩ := kz_f (rightO_prefix hk)
    rw [e1, e2]
    exact ⟨none, 0, 0, rfl, own_nil _ _ _ _, hb⟩)
  go_enter Tryz.func54, Tryz.ntmps54
  go_wp2_with (at_make; refine wpList_make_full _ rfl _ _ 33 rfl w.heap.size 3 i0 (.int .i64 0) 1 Tryz.underlying33 hi hz0 hz1 .i64 .i64 _ _ N rfl rfl ?b0 ?b1 ?b2 ?b3 ?b4 ?_)
  case b0 => rfl
  case b1 => rfl
  case b2 => rw [hz2]; omega
  case b3 => unfold maxLen; omega
  case b4 => exact Nat.le_refl _
  intro w1 hown hgrow
  have hbel : Below w.heap.size w w1 := (Below.refl _ _).grown hgrow (Nat.le_refl _) (by intro k hk; cases hk)
  have HO1 : Hid (Own .i64 3 w.heap.size w1 (some ⟨w.heap.size, 0, none⟩) N N (fpL N 0)) := hid ⟨by simp [fpL], by
    rw [frL_zero]
    have hm : (madeCells #[Value.int .i64 0] N).toList = (List.replicate N (0 : Int)).map (Value.int .i64) := by rw [toList_madeCells_one]; simp
    rw [← hm]
    exact hown⟩
  clear hown hgrow hi hz0 hz1 hz2
  go_wp2
  go_loopw [7] (fun s7 wr => ∃ k : Nat, k ≤ N ∧ s7 = .int .i64 k ∧ Hid (Own .i64 3 w.heap.size wr (some ⟨w.heap.size, 0, none⟩) N N (fpL N k)) ∧ Below w.heap.size w wr) (fun s7 _ => N - (intOf s7).toNat)
  case atStart => exact ⟨0, Nat.zero_le _, rfl, HO1, hbel⟩
  case round =>
    clear HO1 hbel
    obtain ⟨k, hk, rfl, HO, hb⟩ := hrel
    by_cases hlt : k < N
    · have hki : (k : Int) < (N : Int) := by omega
      have c0 := HO.out.at k hlt rfl
      have f0 := HO.out.row.frozenAt k
      have HO2 : Hid (Own .i64 3 w.heap.size (wr.setCell ⟨w.heap.size, k, none⟩ (.int .i64 (-1))) (some ⟨w.heap.size, 0, none⟩) N N (fpL N (k + 1))) := hid (by rw [← frL_set]; exact HO.out.set k (-1))
      clear HO h
      go_wp2
      go_roundw
      case rel => exact ⟨k + 1, by omega, by go_num, HO2, hb.setCell (Nat.le_refl _) _⟩
      case measure => simp [intOf]; omega
    · obtain rfl : k = N := by omega
      have HO2 : Hid (Own .i64 3 w.heap.size wr (some ⟨w.heap.size, 0, none⟩) k k (kzN k (l.take 0))) := hid (by
        have := frL_all (k : Int)
        rw [show (k : Int).toNat = k by omega] at this
        rw [List.take_zero, ← this]; exact HO.out)
      clear HO
      go_wp2
      go_loopw [8] (fun s8 wq => ∃ i : Nat, i ≤ n ∧ s8 = .int .i64 i ∧ Hid (RightO k (l.take i)) ∧ Hid (Own .i64 3 w.heap.size wq (some ⟨w.heap.size, 0, none⟩) k k (kzN k (l.take i))) ∧ Below w.heap.size w wq) (fun s8 _ => n - (intOf s8).toNat)
      case atStart => exact ⟨0, Nat.zero_le _, rfl, HRN, HO2, hb⟩
      case round =>
        clear HO2 hb HRN
        obtain ⟨i, hi, rfl, HR, HO, hb⟩ := hrel
        by_cases hlt2 : i < n
        · obtain ⟨b, o, rfl, hbl, _⟩ := h.here (by omega)
          have hii : (i : Int) < (n : Int) := by omega
          have hrg := h.rgs hlt2
          have HA := hid (fun w' (hb' : Below w.heap.size w w') => h.at hb' hlt2)
          have HAJ := hid (fun w' (hb' : Below w.heap.size w w') j (hj : j < n) => h.at hb' hj)
          obtain ⟨c0, c1⟩ := HA.out _ hb
          have HT := hid (take_pa (l := l) (k := i) (by omega))
          have cS := rspan_any k (pa l i) wr hrg (by omega)
          have HPA : Hid (∀ j, j < i → pa l j ∈ l.take i) := hid (fun j hj => by
            have e : pa (l.take i) j = pa l j := by simp [pa, List.getD, hj]
            rw [← e]
            exact pa_mem (by simp; omega))
          have HTM : Hid (∀ a ∈ l.take i, ∃ t, t < i ∧ pa l t = a) := hid (fun a ha => by
            obtain ⟨t, ht, rfl⟩ := mem_pa ha
            have ht' : t < i := by simp at ht; omega
            exact ⟨t, ht', by simp [pa, List.getD, ht']⟩)
          by_cases hin : InC k (pa l i)
          · rw [inB_t hin, spO_in hin] at cS
            by_cases hs : (pa l i).sz ≤ 120
            · skip
              obtain ⟨f1, f2, f3⟩ := sm_t (hin.small hs).1
              obtain ⟨hw1, hw2⟩ := hin.within
              obtain ⟨q, hq⟩ : ∃ q : Nat, pgA (pa l i) = q := ⟨(pgA (pa l i)).toNat, by omega⟩
              have hqk : q < k := by rw [hq, pgK_small hs] at hw2; omega
              have hqi : (q : Int) < (k : Int) := by omega
              have cC := fun w' => rcellO_any (pa l i) w' hrg
              simp only [f1, f2, f3, hq] at cC
              simp only [hq, pgK_small hs] at cS
              have HSM := hid (HR.out.small hs)
              rw [hq] at HSM
              have HST : Hid (RightO k (l.take (i + 1)) → kzN k (l.take (i + 1)) = (kzN k (l.take i)).set q (clN (pa l i).sz)) := hid (fun c => by
                rw [HT.out] at c ⊢
                have := kzN_small c hs
                rw [hq] at this
                exact this)
              have HIN := hid hin
              have hcr := clN_lt (pa l i).sz
              have HOV0 := hid (kzN_at (P := k) (l := l.take i) (i := q) (by omega) 0)
              have hVR := kdL_rg (l.take i) q
              clear hin f1 f2 f3 hw1 hw2 hs
              generalize hcls : (clN (pa l i).sz : Int) = cls at *
              have hc0 : 0 ≤ cls := by omega
              have hc5 : cls ≤ 5 := by omega
              clear hcr hcls
              obtain ⟨V, hV⟩ : ∃ V, kdL (l.take i) q = V := ⟨_, rfl⟩
              have HOV : Hid ((kzN k (l.take i)).getD q 0 = V) := hid (HOV0.out.trans hV)
              have HVV0 := hid hV
              rw [hV] at hVR
              clear hV HOV0
              have HPO : Hid (∀ a ∈ l.take i, FitO a (pa l i) → a.pos ≠ (pa l i).pos) := hid (fun a _ hf => hf.1)
              generalize pa l i = ob at *
              obtain ⟨p, z⟩ := ob
              simp only at c0 c1 cC cS
              by_cases hv1 : V = -1
              · have HVV : Hid (kdL (l.take i) q = -1 ∨ kdL (l.take i) q = cls) := hid (Or.inl (HVV0.out.trans hv1))
                have hvd : (V != -1) = false := by simpa using hv1
                clear hv1 HVV0 h hVR
                go_wp2_with (first
                  | (go_at_call 84; with_reducible refine cS.mono ?_; rintro e w2 ⟨rfl, hb2⟩; have hb2a := hb2.alloc hb2.size (.cells #[.int .i64 (q : Int), .int .i64 1] 104); obtain ⟨d0, d1⟩ := HA.out _ (next hb hb2a))
                  | (go_at_call 85; with_reducible refine (cC _).mono ?_; rintro e w3 ⟨rfl, hb3⟩; have hb3a := next hb2a hb3; have hb3b := next hb hb3a; have e0 := (HO.out.below hb3a).at q hqk HOV.out; have e1 := (HO.out.below hb3a).row.frozenAt q))
                clear hvd
                go_loopw [15] (fun s15 wq => ∃ j : Nat, j ≤ i ∧ s15 = .int .i64 j ∧ Hid (∀ t, t < j → (pa l t).pos ≠ p) ∧ Below w3.heap.size w3 wq) (fun s15 _ => i - (intOf s15).toNat)
                case atStart => exact ⟨0, Nat.zero_le _, rfl, hid (fun t h => absurd h (by omega)), Below.refl _ _⟩
                case round =>
                  clear e0 e1
                  obtain ⟨j, hj, rfl, HJ, hbq⟩ := hrel
                  have HBW := hid (next hb3b hbq)
                  by_cases hji : j < i
                  · have hjii : (j : Int) < (i : Int) := by omega
                    have hjn : (j : Int) < (n : Int) := by omega
                    obtain ⟨x0, _⟩ := HAJ.out _ HBW.out j (by omega)
                    obtain ⟨y0, _⟩ := HA.out _ HBW.out
                    have HJT := hid (HPA.out j hji)
                    by_cases he : (pa l j).pos = p
                    · have HNR : Hid (¬ RightO k (l.take (i + 1))) := hid (fun c => by
                        rw [HT.out] at c
                        exact (((rightO_snoc.1 c).2.2 _ HJT.out).1) he)
                      generalize pa l j = u at *
                      obtain ⟨p1, z1⟩ := u
                      simp only at x0 y0 he
                      have hed : (p1 == p) = true := by simpa using he
                      clear HJ HA HAJ HPA HJT HSM HST HO HR HT he
                      go_wp2
                      go_quiet (fail)
                      go_wp2
                      go_ret2
                      exact HFA.out _ (below_drewN HBW.out _) (i + 1) HNR.out
                    · have HJ2 : Hid (∀ t, t < j + 1 → (pa l t).pos ≠ p) := hid (fun t ht => by
                        by_cases c : t < j
                        · exact HJ.out t c
                        · obtain rfl : t = j := by omega
                          exact he)
                      generalize pa l j = u at *
                      obtain ⟨p1, z1⟩ := u
                      simp only at x0 y0 he
                      have hed : (p1 == p) = false := by simpa using he
                      clear HJ HA HAJ HPA HJT HSM HST HO HR HT he HFA
                      go_wp2
                      go_quiet (fail)
                      go_wp2
                      go_roundw
                      case rel => exact ⟨j + 1, by omega, by go_num, HJ2, below_drewN hbq _⟩
                      case measure => simp [intOf]; omega
                  · obtain rfl : j = i := by omega
                    have HRN2 : Hid (RightO k (l.take (j + 1))) := hid (by
                      rw [HT.out]
                      refine HSM.out.2 ⟨HIN.out, HVV.out, fun a ha => ?_⟩
                      obtain ⟨t, ht, rfl⟩ := HTM.out a ha
                      exact HJ.out t ht)
                    have HOQ := hid (HO.out.below (next hb3a hbq))
                    have x0 := HOQ.out.at q hqk rfl
                    have x1 := HOQ.out.row.frozenAt q
                    have HO4 := hid (HOQ.out.set q cls)
                    have HKZ : Hid (kzN k (l.take (j + 1)) = (kzN k (l.take j)).set q cls) := hid (HST.out HRN2.out)
                    clear HJ HA HAJ HPA HSM HST HO HR HT HOQ HFA
                    go_wp2
                    go_roundw
                    case rel => exact ⟨j + 1, by omega, by go_num, HRN2, by rw [HKZ.out]; exact HO4, HBW.out.setCell (Nat.le_refl _) _⟩
                    case measure => simp [intOf]; omega
              · have hvd : (V != -1) = true := by simpa using hv1
                by_cases hv2 : V = cls
                · have HVV : Hid (kdL (l.take i) q = -1 ∨ kdL (l.take i) q = cls) := hid (Or.inr (HVV0.out.trans hv2))
                  have hvd2 : (V != cls) = false := by simpa using hv2
                  clear hv1 hv2 HVV0 h hVR
                  go_wp2_with (first
                    | (go_at_call 84; with_reducible refine cS.mono ?_; rintro e w2 ⟨rfl, hb2⟩; have hb2a := hb2.alloc hb2.size (.cells #[.int .i64 (q : Int), .int .i64 1] 104); obtain ⟨d0, d1⟩ := HA.out _ (next hb hb2a))
                    | (go_at_call 85; with_reducible refine (cC _).mono ?_; rintro e w3 ⟨rfl, hb3⟩; have hb3a := next hb2a hb3; have hb3b := next hb hb3a; have e0 := (HO.out.below hb3a).at q hqk HOV.out; have e1 := (HO.out.below hb3a).row.frozenAt q))
                  clear hvd hvd2
                  go_loopw [15] (fun s15 wq => ∃ j : Nat, j ≤ i ∧ s15 = .int .i64 j ∧ Hid (∀ t, t < j → (pa l t).pos ≠ p) ∧ Below w3.heap.size w3 wq) (fun s15 _ => i - (intOf s15).toNat)
                  case atStart => exact ⟨0, Nat.zero_le _, rfl, hid (fun t h => absurd h (by omega)), Below.refl _ _⟩
                  case round =>
                    clear e0 e1
                    obtain ⟨j, hj, rfl, HJ, hbq⟩ := hrel
                    have HBW := hid (next hb3b hbq)
                    by_cases hji : j < i
                    · have hjii : (j : Int) < (i : Int) := by omega
                      have hjn : (j : Int) < (n : Int) := by omega
                      obtain ⟨x0, _⟩ := HAJ.out _ HBW.out j (by omega)
                      obtain ⟨y0, _⟩ := HA.out _ HBW.out
                      have HJT := hid (HPA.out j hji)
                      by_cases he : (pa l j).pos = p
                      · have HNR : Hid (¬ RightO k (l.take (i + 1))) := hid (fun c => by
                          rw [HT.out] at c
                          exact (((rightO_snoc.1 c).2.2 _ HJT.out).1) he)
                        generalize pa l j = u at *
                        obtain ⟨p1, z1⟩ := u
                        simp only at x0 y0 he
                        have hed : (p1 == p) = true := by simpa using he
                        clear HJ HA HAJ HPA HJT HSM HST HO HR HT he
                        go_wp2
                        go_quiet (fail)
                        go_wp2
                        go_ret2
                        exact HFA.out _ (below_drewN HBW.out _) (i + 1) HNR.out
                      · have HJ2 : Hid (∀ t, t < j + 1 → (pa l t).pos ≠ p) := hid (fun t ht => by
                          by_cases c : t < j
                          · exact HJ.out t c
                          · obtain rfl : t = j := by omega
                            exact he)
                        generalize pa l j = u at *
                        obtain ⟨p1, z1⟩ := u
                        simp only at x0 y0 he
                        have hed : (p1 == p) = false := by simpa using he
                        clear HJ HA HAJ HPA HJT HSM HST HO HR HT he HFA
                        go_wp2
                        go_quiet (fail)
                        go_wp2
                        go_roundw
                        case rel => exact ⟨j + 1, by omega, by go_num, HJ2, below_drewN hbq _⟩
                        case measure => simp [intOf]; omega
                    · obtain rfl : j = i := by omega
                      have HRN2 : Hid (RightO k (l.take (j + 1))) := hid (by
                        rw [HT.out]
                        refine HSM.out.2 ⟨HIN.out, HVV.out, fun a ha => ?_⟩
                        obtain ⟨t, ht, rfl⟩ := HTM.out a ha
                        exact HJ.out t ht)
                      have HOQ := hid (HO.out.below (next hb3a hbq))
                      have x0 := HOQ.out.at q hqk rfl
                      have x1 := HOQ.out.row.frozenAt q
                      have HO4 := hid (HOQ.out.set q cls)
                      have HKZ : Hid (kzN k (l.take (j + 1)) = (kzN k (l.take j)).set q cls) := hid (HST.out HRN2.out)
                      clear HJ HA HAJ HPA HSM HST HO HR HT HOQ HFA
                      go_wp2
                      go_roundw
                      case rel => exact ⟨j + 1, by omega, by go_num, HRN2, by rw [HKZ.out]; exact HO4, HBW.out.setCell (Nat.le_refl _) _⟩
                      case measure => simp [intOf]; omega
                · have HNR : Hid (¬ RightO k (l.take (i + 1))) := hid (fun c => by
                    rw [HT.out] at c
                    rcases (HSM.out.1 c).2.1 with x | x
                    · exact hv1 (HVV0.out.symm.trans x)
                    · exact hv2 (HVV0.out.symm.trans x))
                  have hvd2 : (V != cls) = true := by simpa using hv2
                  clear hv1 hv2 HVV0 h hVR
                  go_wp2_with (first
                    | (go_at_call 84; with_reducible refine cS.mono ?_; rintro e w2 ⟨rfl, hb2⟩; have hb2a := hb2.alloc hb2.size (.cells #[.int .i64 (q : Int), .int .i64 1] 104); obtain ⟨d0, d1⟩ := HA.out _ (next hb hb2a))
                    | (go_at_call 85; with_reducible refine (cC _).mono ?_; rintro e w3 ⟨rfl, hb3⟩; have hb3a := next hb2a hb3; have hb3b := next hb hb3a; have e0 := (HO.out.below hb3a).at q hqk HOV.out; have e1 := (HO.out.below hb3a).row.frozenAt q))
                  go_ret2
                  exact HFA.out _ hb3b (i + 1) HNR.out
            · skip
              have hsm : ¬ SmC (pa l i) := fun c => hs c.1.2
              have cC := fun w' => rcellO_any (pa l i) w' hrg
              simp only [sm_f hsm] at cC
              obtain ⟨hw1, hw2⟩ := hin.within
              obtain ⟨hk1, hk2⟩ := hin.pgk
              obtain ⟨q, hq⟩ : ∃ q : Nat, pgA (pa l i) = q := ⟨(pgA (pa l i)).toNat, by omega⟩
              obtain ⟨K, hK⟩ : ∃ K : Nat, pgK (pa l i) = K := ⟨(pgK (pa l i)).toNat, by omega⟩
              simp only [hq, hK] at cS
              rw [hq, hK] at hw2
              rw [hK] at hk1 hk2
              have HLG := hid (HR.out.large hs)
              have HHC : Hid (∀ x : Int, HasC (pa l i) x ↔ (q : Int) ≤ x ∧ x < (q : Int) + K) := hid (fun x => by unfold HasC; rw [hq, hK])
              have HST : Hid (RightO k (l.take (i + 1)) → kzN k (l.take (i + 1)) = (lgL k (l.take i) q K).set q 6) := hid (fun c => by
                rw [HT.out] at c ⊢
                have := kzN_large c hs
                rw [hq, hK] at this
                simpa using this)
              have HIN := hid hin
              generalize cpN (pa l i) = pp at *
              generalize ccN (pa l i) = cc at *
              generalize ckN (pa l i) = kk at *
              have x1 : IntKind.i64.wrap ((q : Int) + (K : Int)) = ((q + K : Nat) : Int) := by rw [IntWalk.i64_in _ ⟨by omega, by omega⟩]; omega
              have hqK : q + K ≤ k := by omega
              have hqk : q < k := by omega
              have hqi : (q : Int) < (k : Int) := by omega
              clear hin hs hsm hq hK hw1 hw2
              generalize pa l i = ob at *
              obtain ⟨p, z⟩ := ob
              simp only at c0 c1 cC cS
              clear h
              go_wp2_with (first
                | (go_at_call 84; with_reducible refine cS.mono ?_; rintro e w2 ⟨rfl, hb2⟩; have hb2a := hb2.alloc hb2.size (.cells #[.int .i64 (q : Int), .int .i64 (K : Int)] 104); have XC := bxP_new' w2 q K; obtain ⟨d0, d1⟩ := HA.out _ (next hb hb2a))
                | (go_at_call 85; with_reducible refine (cC _).mono ?_; rintro e w3 ⟨rfl, hb3⟩; have hb3a := next hb2a hb3; have hb3b := next hb hb3a; have XC3 := XC.kept hb3; obtain ⟨e0, e1, _, _⟩ := XC3.cells; have HO3 := hid (HO.out.below hb3a)))
              have hCne : w2.heap.size ≠ w.heap.size := by
                have h1 := World.block_lt_of_cell? _ _ (HO.out.at q hqk rfl)
                have h2 := hb2.size
                simp only at h1
                omega
              have HO4 : Hid (Own .i64 3 w.heap.size w3 (some ⟨w.heap.size, 0, none⟩) k k (lgL k (l.take i) q 0)) := hid (by rw [lgL_zero]; exact HO3.out)
              have HXC3 := hid XC3
              clear HO HO3 XC XC3 HA HAJ HPA HTM e0 e1 d0 d1 c0 c1
              go_loopw [16] (fun s16 wq => ∃ j : Nat, j ≤ K ∧ s16 = .int .i64 ((q + j : Nat) : Int) ∧ Hid (∀ t, t < j → kdL (l.take i) ((q + t : Nat) : Int) = -1) ∧ Hid (Own .i64 3 w.heap.size wq (some ⟨w.heap.size, 0, none⟩) k k (lgL k (l.take i) q j)) ∧ Hid (BxP wq w2.heap.size ⟨q, K⟩) ∧ Below w.heap.size w wq) (fun s16 _ => q + K - (intOf s16).toNat)
              case atStart => exact ⟨0, Nat.zero_le _, rfl, hid (fun t h => absurd h (by omega)), HO4, HXC3, hb3b⟩
              case round =>
                clear HO4 HXC3
                obtain ⟨j, hj, rfl, HJ, HOQ, HXC, hbq⟩ := hrel
                obtain ⟨y0, y1, _, _⟩ := HXC.out.cells
                simp only at y0 y1
                by_cases hjK : j < K
                · have hjn : ((q + j : Nat) : Int) < ((q + K : Nat) : Int) := by omega
                  have hjk : ((q + j : Nat) : Int) < (k : Int) := by omega
                  obtain ⟨V, hV⟩ : ∃ V, kdL (l.take i) ((q + j : Nat) : Int) = V := ⟨_, rfl⟩
                  have z0 := HOQ.out.at (q + j) (by omega) ((lgL_at (P := k) (l := l.take i) (a := q) (j := j) (by omega) 0).trans hV)
                  have z1 := HOQ.out.row.frozenAt (q + j)
                  by_cases hv : V = -1
                  · have HJ2 : Hid (∀ t, t < j + 1 → kdL (l.take i) ((q + t : Nat) : Int) = -1) := hid (fun t ht => by
                      by_cases c : t < j
                      · exact HJ.out t c
                      · obtain rfl : t = j := by omega
                        exact hV.trans hv)
                    have hvd : (V != -1) = false := by simpa using hv
                    have HO5 : Hid (Own .i64 3 w.heap.size (wr.setCell ⟨w.heap.size, q + j, none⟩ (.int .i64 7)) (some ⟨w.heap.size, 0, none⟩) k k (lgL k (l.take i) q (j + 1))) := hid (by rw [← lgL_set]; exact HOQ.out.set (q + j) 7)
                    have HX5 : Hid (BxP (wr.setCell ⟨w.heap.size, q + j, none⟩ (.int .i64 7)) w2.heap.size ⟨q, K⟩) := hid (HXC.out.off (F := fun j => j = w.heap.size) ((Off.refl _ _).setCell _ _ rfl) hCne)
                    clear HJ hV hv HOQ HXC HLG HHC HST HFA HR HT HIN
                    go_wp2
                    go_roundw
                    case rel => exact ⟨j + 1, by omega, by go_num, HJ2, HO5, HX5, hbq.setCell (Nat.le_refl _) _⟩
                    case measure => simp [intOf]; omega
                  · have HNR : Hid (¬ RightO k (l.take (i + 1))) := hid (fun c => by
                      rw [HT.out] at c
                      exact hv (hV.symm.trans ((HLG.out.1 c).2 _ ((HHC.out _).2 ⟨by omega, by omega⟩))))
                    have hvd : (V != -1) = true := by simpa using hv
                    clear HJ hV hv HOQ HXC HLG HHC HST HR HT HIN
                    go_wp2
                    go_ret2
                    exact HFA.out _ hbq (i + 1) HNR.out
                · obtain rfl : j = K := by omega
                  have HRN2 : Hid (RightO k (l.take (i + 1))) := hid (by
                    rw [HT.out]
                    refine HLG.out.2 ⟨HIN.out, fun x hx => ?_⟩
                    obtain ⟨a1, a2⟩ := (HHC.out x).1 hx
                    have := HJ.out (x.toNat - q) (by omega)
                    rwa [show ((q + (x.toNat - q) : Nat) : Int) = x by omega] at this)
                  have HKZ : Hid (kzN k (l.take (i + 1)) = (lgL k (l.take i) q j).set q 6) := hid (HST.out HRN2.out)
                  have z0 := HOQ.out.at q hqk rfl
                  have z1 := HOQ.out.row.frozenAt q
                  have HO5 := hid (HOQ.out.set q 6)
                  have hnj : ¬ (((q + j : Nat) : Int) < ((q + j : Nat) : Int)) := by omega
                  clear HJ HOQ HXC HLG HHC HST HFA HR HT HIN
                  go_wp2
                  go_roundw
                  case rel => exact ⟨i + 1, by omega, by go_num, HRN2, by rw [HKZ.out]; exact HO5, hbq.setCell (Nat.le_refl _) _⟩
                  case measure => simp [intOf]; omega
          · rw [inB_f hin] at cS
            have HNR : Hid (¬ RightO k (l.take (i + 1))) := hid (fun c => by
              rw [HT.out] at c
              exact hin (rightO_snoc.1 c).2.1)
            generalize spO (pa l i) = sp at *
            generalize pa l i = ob at *
            obtain ⟨p, z⟩ := ob
            obtain ⟨sa, sz⟩ := sp
            simp only at c0 c1 cS
            clear h HR HO HT HA HAJ hin HPA HTM
            go_wp2_with (go_at_call 84; with_reducible refine cS.mono ?_; rintro e w2 ⟨rfl, hb2⟩; have hb2' := next hb hb2)
            go_ret2
            exact HFA.out _ (hb2'.alloc hb2'.size _) (i + 1) HNR.out
        · obtain rfl : i = n := by omega
          have HE : Hid (RightO k l) := hid (by have := HR.out; rwa [List.take_of_length_le (by omega)] at this)
          have HE2 : Hid (Own .i64 3 w.heap.size wr (some ⟨w.heap.size, 0, none⟩) k k (kzN k l)) := hid (by have := HO.out; rwa [List.take_of_length_le (by omega)] at this)
          clear HR HO h HFA
          go_wp2
          go_ret2
          exact ⟨some ⟨w.heap.size, 0, none⟩, k, k, by rw [(kz_t HE.out).2]; rfl, by rw [(kz_t HE.out).1]; exact HE2.out, hb⟩

theorem rkinds_ps (P : Int) (ao : Option Addr) (n cap : Nat) (l : List Spn) (w : World) (h : Ps w ao n cap l) (hn : n ≤ 9223372036854775807) :
    Calls Tryz.prog 54 #[.int .i64 P, .slice ao n cap] w fun e w' => ∃ bo m c, e = .returned (.tuple #[.slice bo m c, .bool (rtO P l)]) ∧ Own .i64 3 w.heap.size w' bo m c (kzL P l) ∧ Below w.heap.size w w' := by
  by_cases h0 : P < 0
  · obtain ⟨e1, e2⟩ := kz_f (P := P) (l := l) (fun c => by have := c.rng; omega)
    rw [e1, e2]
    clear e1 e2 h
    go_enter Tryz.func54, Tryz.ntmps54
    go_wp2
    go_ret2
    exact ⟨none, 0, 0, rfl, own_nil _ _ _ _, Below.refl _ _⟩
  · by_cases h1 : 64 < P
    · obtain ⟨e1, e2⟩ := kz_f (P := P) (l := l) (fun c => by have := c.rng; omega)
      rw [e1, e2]
      clear e1 e2 h
      go_enter Tryz.func54, Tryz.ntmps54
      go_wp2
      go_ret2
      exact ⟨none, 0, 0, rfl, own_nil _ _ _ _, Below.refl _ _⟩
    · obtain ⟨N, rfl⟩ : ∃ N : Nat, P = N := ⟨P.toNat, by omega⟩
      exact rkinds_in N (by omega) ao n cap l w h hn
end Go.Proofs.YtpbljjbhfhfmgaaGreatDoor
