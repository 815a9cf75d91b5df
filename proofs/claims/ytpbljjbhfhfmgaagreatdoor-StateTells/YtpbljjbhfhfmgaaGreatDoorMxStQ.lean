/- StQ · StO · RefStB · RefStC: these texts, one behind another. -/
import Derived.Test.YtpbljjbhfhfmgaaGreatDoorMxStM
import Derived.Test.YtpbljjbhfhfmgaaGreatDoorMxTabA
import Derived.Test.YtpbljjbhfhfmgaaGreatDoorMxGapE
import Derived.Test.YtpbljjbhfhfmgaaGreatDoorMxShelfS
import Derived.Test.YtpbljjbhfhfmgaaGreatDoorMxStV
import Derived.Test.YtpbljjbhfhfmgaaGreatDoorMxGapA
import Derived.Test.YtpbljjbhfhfmgaaGreatDoorMxStpJ
import Derived.Deep.RegionHeld3
import Derived.Test.YtpbljjbhfhfmgaaGreatDoorMxHandM
import Derived.Test.YtpbljjbhfhfmgaaGreatDoorMxHpA
import Derived.Deep.QuietTactic
import Derived.BigQuiet
/- Blocks sorted: state's order by its contract, slices.SortFunc over a row of blocks of the call's own. -/
namespace Go.Proofs.YtpbljjbhfhfmgaaGreatDoor
set_option maxRecDepth 100000
open Go.RowKit Go.Sort Go.Lib
set_option linter.unusedVariables false
set_option linter.unusedSimpArgs false
set_option maxRecDepth 100000

theorem bk_or (p i q j : Int) (z y : Int) : orI [cmpI p q, cmpI i j] = bkI ⟨p, z, i⟩ ⟨q, y, j⟩ := by
  show _ = if p < q then -1 else if q < p then 1 else if i < j then -1 else if j < i then (1 : Int) else 0
  simp only [orI]
  by_cases h1 : p < q
  · rw [cmpI_less h1]; simp [h1]
  · by_cases h2 : p = q
    · subst h2
      by_cases h3 : i < j
      · rw [cmpI_same (a := p) rfl, cmpI_less h3]; simp [h3]
      · by_cases h4 : i = j
        · subst h4; rw [cmpI_same (a := p) rfl, cmpI_same (a := i) rfl]; simp
        · have h5 : j < i := by omega
          rw [cmpI_same (a := p) rfl, cmpI_more h3 h4]; simp [h3, h5]
    · have h5 : q < p := by omega
      rw [cmpI_more h1 h2]; simp [h1, h5]
theorem swo_bk : SWO (ltOf bkI) where
  irrefl x := by show bkLt x x = false; rw [bkLt_f]; omega
  trans x y z h1 h2 := by
    change bkLt x y = true at h1; change bkLt y z = true at h2; show bkLt x z = true
    rw [bkLt_iff] at *; omega
  ntrans x y z h1 h2 := by
    change bkLt x y = false at h1; change bkLt y z = false at h2; show bkLt x z = false
    rw [bkLt_f] at *; omega
/-- The order: it lays three blocks, and turns nothing. -/
theorem cmp_bk (a b : Blk) (w : World) :
    Calls Tryz.prog 40 #[.agg #[.int .i64 a.pos, .int .i64 a.sz, .int .i64 a.ix], .agg #[.int .i64 b.pos, .int .i64 b.sz, .int .i64 b.ix]] w fun e w' => e = .returned (.int .i64 (bkI a b)) ∧ ∃ q os', w' = grow (w.drewN q) os' := by
  obtain ⟨p, z, i⟩ := a
  obtain ⟨q, y, j⟩ := b
  rw [← bk_or]
  simp only
  have c1 := fun w' => compare_int p q w'
  have c2 := fun w' => compare_int i j w'
  generalize cmpI p q = x1 at *
  generalize cmpI i j = x2 at *
  have HG : Hid (∃ n os', (((w.alloc (.cells #[.int .i64 p, .int .i64 z, .int .i64 i] 70)).alloc (.cells #[.int .i64 q, .int .i64 y, .int .i64 j] 70)).alloc (.cells #[.int .i64 x1, .int .i64 x2] 3)).drew = grow (w.drewN n) os') :=
    hid ⟨1, _, by rw [alloc_eq_grow, alloc_eq_grow, alloc_eq_grow, grow_grow, grow_grow]; rfl⟩
  have cO : Calls Tryz.prog 41 #[.slice (some ⟨w.heap.size + 1 + 1, 0, none⟩) 2 2] (((w.alloc (.cells #[.int .i64 p, .int .i64 z, .int .i64 i] 70)).alloc (.cells #[.int .i64 q, .int .i64 y, .int .i64 j] 70)).alloc (.cells #[.int .i64 x1, .int .i64 x2] 3)).drew fun e w' => e = .returned (.int .i64 (orI [x1, x2])) ∧ (((w.alloc (.cells #[.int .i64 p, .int .i64 z, .int .i64 i] 70)).alloc (.cells #[.int .i64 q, .int .i64 y, .int .i64 j] 70)).alloc (.cells #[.int .i64 x1, .int .i64 x2] 3)).drew = w' :=
    (or_any _ 2 2 [x1, x2] _ ((sl_two ((w.alloc (.cells #[.int .i64 p, .int .i64 z, .int .i64 i] 70)).alloc (.cells #[.int .i64 q, .int .i64 y, .int .i64 j] 70)) (w.heap.size + 1 + 1) x1 x2 (by simp)).below (Below.refl _ _).drew) (by omega))
  generalize orI [x1, x2] = r at *
  go_enter Tryz.func40, Tryz.ntmps40
  go_wp2_with fail
  go_region_held3 (fun w' => w'.cell? ⟨w.heap.size, 0, none⟩ = some (.int .i64 p) ∧ w'.cell? ⟨w.heap.size, 2, none⟩ = some (.int .i64 i) ∧ w'.cell? ⟨w.heap.size + 1, 0, none⟩ = some (.int .i64 q) ∧ w'.cell? ⟨w.heap.size + 1, 2, none⟩ = some (.int .i64 j)) (go_keep) (first
    | (go_at_call 42; with_reducible refine (c1 _).mono ?_; rintro e w1 ⟨rfl, rfl⟩)
    | (go_at_call 42; with_reducible refine (c2 _).mono ?_; rintro e w1 ⟨rfl, rfl⟩)
    | (go_at_call 41; with_reducible refine cO.mono ?_; rintro e w2 ⟨rfl, rfl⟩))
  go_wp2
  go_ret
  exact ⟨rfl, HG.out⟩
theorem cmpLays_bk (blk off size : Nat) (w : World) : CmpLays Tryz.prog 40 #[] Blk.cells 3 bkI blk off size w := fun _ _ _ _ x y => cmp_bk x y _
instance : Inhabited Blk := ⟨⟨0, 0, 0⟩⟩
theorem flat_bk (l : List Blk) : flatK Blk.cells 3 l.toArray = (cellsB l).toArray := by
  refine ext_get! (by simp [cellsB_length]) fun t ht => ?_
  have ht' : t < l.length * 3 := by simpa using ht
  rw [get_flatK _ _ _ _ (by simpa using ht')]
  have h1 := cellsB_get l (i := t / 3) (j := t % 3) (by omega) (by omega)
  rw [show t / 3 * 3 + t % 3 = t by omega] at h1
  have e : l.toArray[t / 3]! = ba l (t / 3) := by simp [ba, List.getD, show t / 3 < l.length by omega]
  rw [e]
  simp only [List.getElem!_eq_getElem?_getD, List.getElem!_toArray]
  rw [h1]
theorem sorted_heap {w : World} {g n : Nat} {os : Array Obj} {cur : Array Value} {e : TypeId} {fr : Nat × Nat} (d : Array Blk) (hb : w.heap[g]? = some (.cells cur e fr)) :
    (sortWorldK Blk.cells 3 w g 0 n d os).heap[g]? = some (.cells (putCells id 0 (flatK Blk.cells 3 d) cur) e fr) := by
  have hg : g < w.heap.size := (Array.getElem?_eq_some_iff.1 hb).1
  unfold sortWorldK
  rw [heap_grow_old _ _ (by simpa [putRowK] using hg)]
  simp [putRowK, putRow, mapBlock, Sort.ahead, Array.getElem?_modify, hb, onCells]
theorem sorted_off {w : World} {g n : Nat} {os : Array Obj} (d : Array Blk) : Off (fun j => j = g) w (sortWorldK Blk.cells 3 w g 0 n d os) := by
  refine ⟨rfl, rfl, rfl, by simp [sortWorldK, putRowK], fun k hk hne => ?_⟩
  unfold sortWorldK
  rw [heap_grow_old _ _ (by simpa [putRowK] using hk)]
  have : g ≠ k := fun e => hne e.symm
  simp [putRowK, putRow, mapBlock, Sort.ahead, Array.getElem?_modify, this]
theorem take_put (cur : Array Value) (ts : List Value) (h : ts.length ≤ cur.size) : (putCells id 0 ts.toArray cur).toList.take ts.length = ts := by
  apply List.ext_getElem?
  intro j
  by_cases hj : j < ts.length
  · rw [List.getElem?_take_of_lt hj, Array.getElem?_toList]
    simp [putCells, hj, show j < cur.size by omega]
  · rw [List.getElem?_take_eq_none (by omega), List.getElem?_eq_none (by omega)]
/-- Behind the sort the same slice owns the sorted row. -/
theorem sort_bs (B : Nat) (ao : Option Addr) (n cap : Nat) (l : List Blk) (w : World) (h : OwB B w ao n cap l) (hn : n ≤ 1000000) :
    Calls Tryz.prog 39 #[.slice ao n cap, .func (.func 40) #[] #[]] w fun e w' => e = .returned (.tuple #[]) ∧ ∃ r : List Blk, r.Perm l ∧ r.Pairwise BkLe ∧ OwB B w' ao n cap r ∧ Off (fun j => ∃ a, ao = some a ∧ a.block = j) w w' := by
  have hl := h.len
  by_cases hn0 : n = 0
  · subst hn0
    obtain rfl : l = [] := List.eq_nil_of_length_eq_zero hl
    have hc := AnyF.slices_SortFunc_none Tryz.sortB ao cap (.func (.func 40) #[] #[]) w
    change Calls Tryz.prog 39 _ _ _ at hc
    refine hc.mono ?_
    rintro e w' ⟨rfl, rfl⟩
    exact ⟨rfl, [], List.Perm.refl _, List.Pairwise.nil, h, Off.refl _ _⟩
  · obtain ⟨g, rfl, hg, hlt⟩ := h.shape (by omega)
    have hown := h.row.2
    rcases hown with ⟨_, h0⟩ | ⟨g', cap', cur, hv, hg', hh, hc, hm, hs, ht⟩
    · omega
    simp only [Value.slice.injEq, Option.some.injEq, Addr.mk.injEq, and_true, true_and] at hv
    obtain ⟨rfl, rfl⟩ := hv
    have eg : ∀ args w, (callFunc 40 args).run Tryz.prog w = .ok (.enter 40 args) w := enters_of Tryz.func40 (by kernel_rfl) rfl
    have hH : HoldsK Blk.cells 3 w g 0 l.toArray := by
      unfold HoldsK
      rw [flat_bk]
      intro j hj
      have hj' : j < n * 3 := by simpa [cellsB_length, hl] using hj
      refine ⟨?_, by simp [World.frozen?, hh]⟩
      have h1 : (cur.toList.take (n * 3))[j]? = (cellsB l)[j]? := by rw [ht]
      rw [List.getElem?_take_of_lt hj'] at h1
      rw [Nat.zero_add, cell_of_row w g j cur 70 (0, 0) hh, ← Array.getElem?_toList, h1]
      have hj2 : j < (cellsB l).length := by simpa using hj
      simp [hj2]
    have hcon := AnyQ.slices_SortFunc Tryz.sortB 3 Tryz.isAgg70 Tryz.sizeOf70 Blk.cells (fun _ => rfl) (fun x v hv => cellsB_one [x] v (by simpa [cellsB] using hv)) bkI swo_bk 40 #[] g 0 cap l.toArray w eg (cmpLays_bk g 0 _ w) hH hlt (by simp; omega)
    change Calls Tryz.prog 39 _ _ _ at hcon
    rw [show l.toArray.size = n by simp [hl]] at hcon
    refine hcon.mono ?_
    rintro e w' ⟨rfl, d', nd, os, hp, hso, rfl⟩
    obtain ⟨hsz, _, hpp⟩ := hp
    have hsz' : d'.size = n := by rw [hsz]; simp [hl]
    have e1 : d'.extract 0 n = d' := by rw [← hsz']; exact Array.extract_size
    have e2 : l.toArray.extract 0 n = l.toArray := by rw [← hl]; simp
    rw [e1, e2] at hpp
    have hperm : d'.toList.Perm l := by simpa using hpp
    have hflat : flatK Blk.cells 3 d' = (cellsB d'.toList).toArray := by
      have := flat_bk d'.toList
      simpa using this
    refine ⟨rfl, d'.toList, hperm, ?_, ⟨by simpa using hsz', ⟨by rw [cellsB_length]; simp [hsz'], Or.inr ⟨g, cap, _, rfl, hg, sorted_heap _ hh, hc, hm, by simp [putCells, hs], ?_⟩⟩, fun s hs' => h.rg s (hperm.mem_iff.1 hs')⟩, ?_⟩
    · rw [List.pairwise_iff_getElem]
      intro i j hi hj hij
      have := hso i j (Nat.zero_le _) hij (by simpa [hsz'] using hj)
      have hi' : i < d'.size := by simpa using hi
      have hj' : j < d'.size := by simpa using hj
      rw [getElem!_pos d' j hj', getElem!_pos d' i hi'] at this
      exact this
    · rw [hflat]
      have := take_put cur (cellsB d'.toList) (by rw [cellsB_length, hs]; simp [hsz']; omega)
      rw [cellsB_length] at this
      simpa [hsz'] using this
    · exact (sorted_off d').mono (fun j hj _ => ⟨_, rfl, hj.symm⟩)
end Go.Proofs.YtpbljjbhfhfmgaaGreatDoor
/- state.Ones, Twos and Live by their contracts. -/
namespace Go.Proofs.YtpbljjbhfhfmgaaGreatDoor
set_option maxRecDepth 100000
open Go.RowKit
set_option linter.unusedVariables false
set_option linter.unusedSimpArgs false
set_option maxRecDepth 100000

theorem st_block1 (w : World) (k : Nat) (s : Blk) (hk : w.heap.size = k) (hs : RgB s) : Bs (w.alloc (.cells #[.int .i64 s.pos, .int .i64 s.sz, .int .i64 s.ix] 70)) (some ⟨k, 0, none⟩) 1 1 [s] := by
  subst hk
  refine ⟨rfl, Nat.le_refl _, (by intro h; cases h), fun _ => ⟨w.heap.size, 0, rfl, by simp, fun i hi => ?_⟩, fun x hx => by rw [List.mem_singleton.1 hx]; exact hs⟩
  obtain rfl : i = 0 := by omega
  refine B3.of fun j u hu => ?_
  rw [cell_of_row _ w.heap.size _ _ 70 (0, 0) (heap_alloc_new w _)]
  simpa [Blk.cells, ba] using hu
theorem st_object1 (w : World) (k : Nat) (s : Spn) (hk : w.heap.size = k) (hs : RgP s) : Ps (w.alloc (.cells #[.int .i64 s.pos, .int .i64 s.sz] 58)) (some ⟨k, 0, none⟩) 1 1 [s] := by
  subst hk
  refine ⟨rfl, Nat.le_refl _, (by intro h; cases h), fun _ => ⟨w.heap.size, 0, rfl, by simp, fun i hi => ?_⟩, fun x hx => by rw [List.mem_singleton.1 hx]; exact hs⟩
  obtain rfl : i = 0 := by omega
  exact (bxJ_new w s).p2
theorem nd_rg (n : Int) : Rg (ndN n) := by
  unfold Rg
  by_cases h : 1 ≤ n ∧ n ≤ 2048
  · rw [(nd_t h).1]; omega
  · rw [(nd_f h).1]; omega
theorem take_snoc {α : Type} {l : List α} {k : Nat} (h : k < l.length) (d : α) : l.take (k + 1) = l.take k ++ [l.getD k d] := by
  rw [List.take_add_one, List.getElem?_eq_getElem h]
  simp [List.getD, h]
theorem live_any (v : StV) (x : Stt) (w : World) (h : Sta w v x) (hn : v.sn ≤ 1000000) :
    Calls Tryz.prog 21 #[.agg (stC v x)] w fun e w' => e = .returned (.int .i64 (liL x.sl : Nat)) ∧ Below w.heap.size w w' := by
  have hb0 := st_box w v x
  have hB := bxT_new w v x
  have hs := h.s.below hb0
  have cF := find_live v.so v.sn v.sc x.sl _ hs hn
  have hli := fi_li x.sl x.sl.length
  obtain ⟨shp, md, bs, sl, rt, dt⟩ := x
  obtain ⟨so, sn, sc, ro, rn, rc, to, tn, tc, A, N, C⟩ := v
  simp only [stC] at *
  have c6 := hB.cells.c6
  simp only at c6
  have HL : Hid ((fiL Slt.live sl).length = liL sl) := hid (by unfold fiL liL; exact hli)
  clear h hs hli
  go_enter Tryz.func21, Tryz.ntmps21
  go_wp2_with (first
    | (go_at_call 25; refine cF.mono ?_; rintro e w1 ⟨bo, m, c, rfl, ho, hm, hb1⟩; have HM : Hid (m = liL sl) := hid (by rw [← HL.out, ho.sl.len]); have hB1 := next hb0 hb1; clear ho hb1))
  go_ret
  exact ⟨by rw [HM.out]; rfl, hB1⟩
set_option maxHeartbeats 1000000 in
theorem ones_any (v : StV) (x : Stt) (w : World) (h : Sta w v x) (hn : v.sn ≤ 1000000) :
    Calls Tryz.prog 14 #[.agg (stC v x)] w fun e w' => ∃ bo m c, e = .returned (.slice bo m c) ∧ OwB w.heap.size w' bo m c (onL x.sl) ∧ m ≤ v.sn ∧ Below w.heap.size w w' := by
  have hb0 := st_box w v x
  have hB := bxT_new w v x
  have hs := h.s.below hb0
  have hl := h.s.len
  have cF := find_one v.so v.sn v.sc x.sl _ hs hn
  obtain ⟨shp, md, bs, sl, rt, dt⟩ := x
  obtain ⟨so, sn, sc, ro, rn, rc, to, tn, tc, A, N, C⟩ := v
  simp only [stC] at *
  have c6 := hB.cells.c6
  simp only at c6
  have hfl := fiN_len isOne sl sl.length
  clear h
  go_enter Tryz.func14, Tryz.ntmps14
  go_wp2_with (first
    | (go_at_call 25; refine cF.mono ?_; rintro e w1 ⟨fo, M, fc, rfl, ho, hm, hb1⟩; have HF := hid ho.sl; have HB1 := hid (next hb0 hb1); have HT := hid (hs.below hb1); have HX := hid (hB.kept hb1); have hfm : (fiL isOne sl).length = M := ho.sl.len; clear ho hb1))
  clear c6 hb0 hB hs cF
  go_loopw [3, 12] (fun s3 s12 wr => ∃ (k : Nat) (bo : Option Addr) (c : Nat) (xs : List Blk), k ≤ M ∧ s12 = .int .i64 k ∧ s3 = .slice bo k c ∧ Hid (OwB w1.heap.size wr bo k c xs) ∧ Hid (xs = ((fiL isOne sl).take k).map (obO sl)) ∧ Hid (Below w1.heap.size w1 wr)) (fun _ s12 _ => M - (intOf s12).toNat)
  case atStart => exact ⟨0, none, 0, [], Nat.zero_le _, rfl, rfl, hid (owB_nil _ _), hid rfl, hid (Below.refl _ _)⟩
  case round =>
    obtain ⟨k, bo, c, xs, hk, rfl, rfl, HO, HE, HB⟩ := hrel
    by_cases hlt : k < M
    · obtain ⟨j, hj, hjv, hjp⟩ := fiN_at (p := isOne) (l := sl) (k := sl.length) (i := k) (by unfold fiL at hfm; omega)
      have hj2 : j < sn := by omega
      obtain ⟨fb, fof, rfl, _, hfc⟩ := (HF.out.below HB.out).here (by omega)
      have f0 := hfc k hlt
      have hjv' : (fiL isOne sl).getD k 0 = (j : Int) := hjv
      rw [hjv'] at f0
      obtain ⟨b, off, rfl, _, _⟩ := HT.out.here (by omega)
      obtain ⟨_, _, _, c3, c4⟩ := HT.out.at HB.out hj2
      have hrg := HT.out.rgs hj2
      have c6 := (HX.out.kept HB.out).cells.c6
      simp only at c6
      have hki : (k : Int) < (M : Int) := by omega
      have hji : (j : Int) < (sn : Int) := by omega
      have HE2 : Hid (((fiL isOne sl).take (k + 1)).map (obO sl) = xs ++ [⟨(sg sl j).pos, ndN (sg sl j).len, (j : Int)⟩]) := hid (by
        rw [take_snoc (by omega) 0, List.map_append, ← HE.out, hjv']; simp [obO, onB])
      have hrb : RgB ⟨(sg sl j).pos, ndN (sg sl j).len, (j : Int)⟩ := ⟨hrg.p, nd_rg _, by show Rg (j : Int); unfold Rg; omega⟩
      have cN := need_any (sg sl j).len wr
      generalize sg sl j = s at *
      obtain ⟨g0, lv, tw, p, ln⟩ := s
      simp only at c3 c4 HE2 hrb cN
      generalize ndN ln = z at *
      generalize ndE ln = ez at *
      have HS := hid (st_block1 wr wr.heap.size ⟨p, z, (j : Int)⟩ rfl hrb)
      have hbA : Below wr.heap.size wr (wr.alloc (.cells #[.int .i64 p, .int .i64 z, .int .i64 (j : Int)] 70)) := (Below.refl _ _).alloc (Nat.le_refl _) _
      have HOA := hid (HO.out.below hbA)
      have HBA := hid (next HB.out hbA)
      have hszA : w1.heap.size ≤ (wr.alloc (.cells #[.int .i64 p, .int .i64 z, .int .i64 (j : Int)] 70)).heap.size := HBA.out.size
      have hm24 : (k + 1) * 24 ≤ 140737488355328 := by omega
      clear hbA hfc HE hrg hrb hjv hjv' hjp hfm hl hj hfl
      go_wp2_with (first
        | (go_at_call 38; with_reducible refine cN.mono ?_; rintro e w2 ⟨rfl, rfl⟩)
        | (at_builtin; refine append_bs rfl (.tmp 26) (.tmp 36) rfl w1.heap.size _ k xs rfl HOA.out.row HOA.out.rg (some ⟨wr.heap.size, 0, none⟩) 1 1 [⟨p, z, (j : Int)⟩] rfl HS.out hm24 hszA ?_; intro bo2 c2 w2 ho2 hg2; have HO2 := hid ho2; have HB2 := hid (Below.grown HBA.out hg2 hszA (fun j hj => (HOA.out.row.lt j hj).1)); clear ho2 hg2))
      go_roundw
      case rel => exact ⟨k + 1, bo2, c2, xs ++ [⟨p, z, (j : Int)⟩], by omega, by go_num, rfl, HO2, hid HE2.out.symm, HB2⟩
      case measure => simp [intOf]; omega
    · obtain rfl : k = M := by omega
      have HP : Hid (xs = obL sl) := hid (by rw [HE.out, List.take_of_length_le (by omega)]; rfl)
      have hki : ¬ ((k : Int) < (k : Int)) := by omega
      have cS := sort_bs w1.heap.size bo k c xs wr HO.out (by omega)
      have hw1 := HB1.out.size
      clear HF HT HX HE
      go_wp2_with (first
        | (go_at_call 39; refine cS.mono ?_; rintro e w2 ⟨rfl, r, hp, hr, ho2, hf2⟩; have HR : Hid (OwB w1.heap.size w2 bo k c (onL sl)) := hid (by rw [← on_sorted (HP.out ▸ hp) hr]; exact ho2); have HW : Hid (Below w1.heap.size w1 w2) := hid (HB.out.trans (hf2.below (fun j hj => by obtain ⟨a, ha, rfl⟩ := hj; exact (HO.out.row.lt a.block (by rw [ha]; rfl)).1) HB.out.size)); clear hp hr ho2 hf2))
      go_ret
      exact ⟨bo, k, c, rfl, HR.out.mono hw1, hm, next HB1.out HW.out⟩
set_option maxHeartbeats 1000000 in
theorem twos_any (v : StV) (x : Stt) (w : World) (h : Sta w v x) (hn : v.sn ≤ 1000000) :
    Calls Tryz.prog 8 #[.agg (stC v x)] w fun e w' => ∃ bo m c fo fc, e = .returned (.tuple #[.slice bo m c, .slice fo m fc]) ∧ OwJ w.heap.size w' bo m c (twL x.sl) ∧ Own .i64 3 w.heap.size w' fo m fc (twX x.sl) ∧ m ≤ v.sn ∧ Below w.heap.size w w' := by
  have hb0 := st_box w v x
  have hB := bxT_new w v x
  have hs := h.s.below hb0
  have hl := h.s.len
  have cF := find_two v.so v.sn v.sc x.sl _ hs hn
  obtain ⟨shp, md, bs, sl, rt, dt⟩ := x
  obtain ⟨so, sn, sc, ro, rn, rc, to, tn, tc, A, N, C⟩ := v
  simp only [stC] at *
  have c6 := hB.cells.c6
  simp only at c6
  have hfl := fiN_len isTwo sl sl.length
  clear h
  go_enter Tryz.func8, Tryz.ntmps8
  go_wp2_with (first
    | (go_at_call 25; refine cF.mono ?_; rintro e w1 ⟨fo, M, fc, rfl, ho, hm, hb1⟩; have HF := hid ho; have HB1 := hid (next hb0 hb1); have HT := hid (hs.below hb1); have HX := hid (hB.kept hb1); have hw0 := hb0.size; have hfm : (fiL isTwo sl).length = M := ho.sl.len; clear ho hb1))
  clear c6 hb0 hB hs cF
  go_loopw [5, 13] (fun s5 s13 wr => ∃ (k : Nat) (bo : Option Addr) (c : Nat) (xs : List Spn), k ≤ M ∧ s13 = .int .i64 k ∧ s5 = .slice bo k c ∧ Hid (OwJ w1.heap.size wr bo k c xs) ∧ Hid (xs = ((fiL isTwo sl).take k).map (fun y => twO (sg sl y.toNat))) ∧ Hid (Below w1.heap.size w1 wr)) (fun _ s13 _ => M - (intOf s13).toNat)
  case atStart => exact ⟨0, none, 0, [], Nat.zero_le _, rfl, rfl, hid (owJ_nil _ _), hid rfl, hid (Below.refl _ _)⟩
  case round =>
    obtain ⟨k, bo, c, xs, hk, rfl, rfl, HO, HE, HB⟩ := hrel
    by_cases hlt : k < M
    · obtain ⟨j, hj, hjv, hjp⟩ := fiN_at (p := isTwo) (l := sl) (k := sl.length) (i := k) (by unfold fiL at hfm; omega)
      have hj2 : j < sn := by omega
      obtain ⟨fb, fof, rfl, hfb, hfc⟩ := (HF.out.sl.below HB.out).here (by omega)
      have f0 := hfc k hlt
      have hjv' : (fiL isTwo sl).getD k 0 = (j : Int) := hjv
      rw [hjv'] at f0
      obtain ⟨b, off, rfl, hbl, _⟩ := HT.out.here (by omega)
      obtain ⟨_, _, _, c3, c4⟩ := HT.out.at HB.out hj2
      have hrg := HT.out.rgs hj2
      have c6 := (HX.out.kept HB.out).cells.c6
      simp only at c6
      have hki : (k : Int) < (M : Int) := by omega
      have hji : (j : Int) < (sn : Int) := by omega
      have hj0 : (0 : Int) ≤ (j : Int) := by omega
      have hjn : ((j : Int)).toNat = j := by omega
      have HE2 : Hid (((fiL isTwo sl).take (k + 1)).map (fun y => twO (sg sl y.toNat)) = xs ++ [⟨(sg sl j).pos, (sg sl j).len⟩]) := hid (by
        rw [take_snoc (by omega) 0, List.map_append, ← HE.out, hjv']; simp [twO])
      have hrb : RgP ⟨(sg sl j).pos, (sg sl j).len⟩ := ⟨hrg.p, hrg.l⟩
      obtain ⟨s, hsj⟩ : ∃ s, sg sl j = s := ⟨_, rfl⟩
      rw [hsj] at c3 c4 HE2 hrb hrg
      obtain ⟨g0, lv, tw, p, ln⟩ := s
      simp only at c3 c4 HE2 hrb
      have hbA : Below wr.heap.size wr (wr.alloc (.cells #[.int .i64 p, .int .i64 ln] 58)).drew := ((Below.refl _ _).alloc (Nat.le_refl _) _).drew
      have HS := hid ((st_object1 wr wr.heap.size ⟨p, ln⟩ rfl hrb).below (w' := (wr.alloc (.cells #[.int .i64 p, .int .i64 ln] 58)).drew) (Below.refl _ _).drew)
      have hoA := HO.out.below hbA
      have HOA := hid hoA.row
      have HRA := hid hoA.rg
      have hszA : Hid (w1.heap.size ≤ (wr.alloc (.cells #[.int .i64 p, .int .i64 ln] 58)).drew.heap.size) := hid (next HB.out hbA).size
      have HBA : Hid (∀ w', (wr.alloc (.cells #[.int .i64 p, .int .i64 ln] 58)).drew.grownBy w' (Value.slice bo k c).ownBlock → Below w1.heap.size w1 w') := fun w' hg => (next HB.out hbA).grown hg hszA.out (fun j hj => (hoA.row.lt j hj).1)
      have Hcl : Hid (∀ w', Below w1.heap.size w1 w' → w'.cell? ⟨w.heap.size, 6, none⟩ = some (.slice (some ⟨b, off, none⟩) sn sc) ∧ w'.cell? ⟨b, off + j * 5 + 3, none⟩ = some (.int .i64 p) ∧ w'.cell? ⟨b, off + j * 5 + 4, none⟩ = some (.int .i64 ln)) := hid (fun w' hb' => ⟨by have := (HX.out.kept hb').cells.c6; simpa using this, by have := (HT.out.at hb' hj2).c3; rw [hsj] at this; exact this, by have := (HT.out.at hb' hj2).c4; rw [hsj] at this; exact this⟩)
      have hm16 : (k + 1) * 16 ≤ 140737488355328 := by omega
      have hrs := HB.out.size
      have hb1 : b < wr.heap.size := by omega
      have hb2 : w.heap.size < wr.heap.size := by have := HX.out.lt; omega
      have hne1 : b ≠ wr.heap.size := by omega
      have hne2 : wr.heap.size ≠ b := by omega
      have hne3 : w.heap.size ≠ wr.heap.size := by omega
      clear hbA hoA hfc HE hrg hrb hjv hjv' hjp hfm hl hj hfl hsj
      go_wp2
      go_region_held3 (fun w' => w'.cell? ⟨w.heap.size, 6, none⟩ = some (.slice (some ⟨b, off, none⟩) sn sc) ∧ w'.cell? ⟨b, off + j * 5 + 3, none⟩ = some (.int .i64 p) ∧ w'.cell? ⟨b, off + j * 5 + 4, none⟩ = some (.int .i64 ln)) (go_keep) (first
        | (refine step_append_js rfl (.tmp 17) (.tmp 31) rfl w1.heap.size (.slice bo k c) k xs rfl HOA.out HRA.out ⟨wr.heap.size, 0, none⟩ 1 1 [⟨p, ln⟩] rfl HS.out hm16 hszA.out ?_; intro bo2 c2 w2 ho2 hg2; have bw := HBA.out w2 hg2; obtain ⟨t0, t1, t2⟩ := Hcl.out w2 bw))
      go_wp2
      go_roundw
      case rel => exact ⟨k + 1, bo2, c2, xs ++ [⟨p, ln⟩], by omega, by go_num, rfl, hid ho2, hid HE2.out.symm, hid bw⟩
      case measure => simp [intOf]; omega
    · obtain rfl : k = M := by omega
      have HP : Hid (xs = twL sl) := hid (by rw [HE.out, List.take_of_length_le (by omega)]; exact (tw_map sl sl.length).symm)
      have HQ : Hid (fiL isTwo sl = twX sl) := hid (fi_tw sl sl.length)
      have hki : ¬ ((k : Int) < (k : Int)) := by omega
      have hw1 := HB1.out.size
      clear HT HX HE
      go_wp2
      go_ret2
      exact ⟨bo, k, c, fo, fc, rfl, by rw [← HP.out]; exact HO.out.mono hw1, by rw [← HQ.out]; exact (HF.out.below HB.out).mono hw0, hm, next HB1.out HB.out⟩
end Go.Proofs.YtpbljjbhfhfmgaaGreatDoor
/- joistref18.Spans and Twos by their contracts. -/
namespace Go.Proofs.YtpbljjbhfhfmgaaGreatDoor
set_option maxRecDepth 100000
open Go.RowKit
set_option linter.unusedVariables false
set_option linter.unusedSimpArgs false
set_option maxRecDepth 100000

set_option maxHeartbeats 1000000 in
theorem rspansS_bs (ao : Option Addr) (n cap : Nat) (l : List Blk) (w : World) (h : Bs w ao n cap l) (hn : n ≤ 100000) :
    Calls Tryz.prog 53 #[.slice ao n cap] w fun e w' => ∃ bo c, e = .returned (.slice bo n c) ∧ OwP w.heap.size w' bo n c (spL l) ∧ Below w.heap.size w w' := by
  have hl := h.len
  go_enter Tryz.func53, Tryz.ntmps53
  go_wp2
  go_loopw [3, 4] (fun s3 s4 wr => ∃ (k : Nat) (bo : Option Addr) (c : Nat), k ≤ n ∧ s4 = .int .i64 k ∧ s3 = .slice bo k c ∧ Hid (OwP w.heap.size wr bo k c (spL (l.take k))) ∧ Below w.heap.size w wr) (fun _ s4 _ => n - (intOf s4).toNat)
  case atStart => exact ⟨0, none, 0, Nat.zero_le _, rfl, rfl, hid (owP_nil _ _), Below.refl _ _⟩
  case round =>
    obtain ⟨k, bo, c, hk, rfl, rfl, HO, hb⟩ := hrel
    by_cases hlt : k < n
    · obtain ⟨b, off, rfl, hbl, _⟩ := h.here (by omega)
      obtain ⟨c0, c1, c2⟩ := h.at hb hlt
      have hrg := h.rgs hlt
      have hki : (k : Int) < (n : Int) := by omega
      have hbw : b < wr.heap.size := Nat.lt_of_lt_of_le hbl hb.size
      have hne : b ≠ wr.heap.size := by omega
      have HT := hid (take_spL (l := l) (k := k) (by omega))
      have bA : Below wr.heap.size wr (wr.alloc (ba l k).spn.obj).drew := ((Below.refl _ _).alloc (Nat.le_refl _) _).drew
      have HP : Hid (Ps (wr.alloc (ba l k).spn.obj).drew (some ⟨wr.heap.size, 0, none⟩) 1 1 [(ba l k).spn]) := hid ((st_span1 wr wr.heap.size (ba l k).spn rfl ⟨hrg.p, hrg.z⟩).below (Below.refl _ _).drew)
      have oA := HO.out.below bA
      have Hsz : Hid (w.heap.size ≤ (wr.alloc (ba l k).spn.obj).drew.heap.size) := hid (Nat.le_trans hb.size bA.size)
      have HB : Hid (∀ w', (wr.alloc (ba l k).spn.obj).drew.grownBy w' (Value.slice bo k c).ownBlock → Below w.heap.size w w') := fun w' hg => (next hb bA).grown hg (Nat.le_trans hb.size bA.size) (fun j hj => (HO.out.row.lt j hj).1)
      have HX := hid oA.row
      have HR := hid oA.rg
      have Hcl : Hid (∀ w', Below w.heap.size w w' → w'.cell? ⟨b, off + k * 3, none⟩ = some (.int .i64 (ba l k).pos) ∧ w'.cell? ⟨b, off + k * 3 + 1, none⟩ = some (.int .i64 (ba l k).sz)) := hid (fun w' hb' => ⟨(h.at hb' hlt).c0, (h.at hb' hlt).c1⟩)
      have h16 : (k + 1) * 16 ≤ 140737488355328 := by omega
      clear h hrg HO oA
      generalize spL (l.take k) = L at *
      generalize ba l k = s at *
      obtain ⟨p, z, x⟩ := s
      simp only [Blk.spn, Spn.obj] at *
      go_wp2
      go_region_held3 (fun w' => w'.cell? ⟨b, off + k * 3, none⟩ = some (.int .i64 p) ∧ w'.cell? ⟨b, off + k * 3 + 1, none⟩ = some (.int .i64 z)) (go_keep) (first
        | (refine step_append_ps rfl (.tmp 11) (.tmp 23) rfl w.heap.size (.slice bo k c) k L rfl HX.out HR.out ⟨wr.heap.size, 0, none⟩ 1 1 [⟨p, z⟩] rfl HP.out h16 Hsz.out ?_; intro bo2 c2' w2 ho2 hg2; have bw := HB.out w2 hg2; obtain ⟨t0, t1⟩ := Hcl.out w2 bw))
      go_wp2
      go_roundw
      case rel => exact ⟨k + 1, bo2, c2', by omega, by go_num, rfl, by rw [HT.out]; exact ho2, bw⟩
      case measure => simp [intOf]; omega
    · obtain rfl : k = n := by omega
      have hki : ¬ ((k : Int) < (k : Int)) := by omega
      have HO' := HO.out
      rw [List.take_of_length_le (by omega)] at HO'
      have HO2 := hid HO'
      clear HO HO'
      go_wp2
      go_ret
      exact ⟨_, _, rfl, HO2.out, hb⟩
set_option maxHeartbeats 1000000 in
theorem rtwos_any (v : StV) (x : Stt) (w : World) (h : Sta w v x) (hn : v.sn ≤ 1000000) :
    Calls Tryz.prog 9 #[.agg (stC v x)] w fun e w' => ∃ bo m c fo fc, e = .returned (.tuple #[.slice bo m c, .slice fo m fc]) ∧ OwJ w.heap.size w' bo m c (twL x.sl) ∧ Own .i64 3 w.heap.size w' fo m fc (twX x.sl) ∧ m ≤ v.sn ∧ Below w.heap.size w w' := by
  have hb0 := st_box w v x
  have hB := bxT_new w v x
  have hs := h.s.below hb0
  have hl := h.s.len
  obtain ⟨shp, md, bs, sl, rt, dt⟩ := x
  obtain ⟨so, sn, sc, ro, rn, rc, to, tn, tc, A, N, C⟩ := v
  simp only [stC] at *
  clear h
  go_enter Tryz.func9, Tryz.ntmps9
  go_wp2
  generalize w.alloc (.cells #[.int .i64 shp.pg, .int .i64 shp.sl, .int .i64 shp.rt, .int .i64 shp.rm, .int .i64 md, .int .i64 bs, .slice so sn sc, .slice ro rn rc, .slice to tn tc] 28) = W0 at *
  have HX := hid hB
  have HT := hid hs
  have HB0 := hid hb0
  have hbw := hb0.size
  have hxl := hB.lt
  clear hB hs hb0
  go_loopw [4, 5, 6] (fun s4 s5 s6 wr => ∃ (k m : Nat) (bo fo : Option Addr) (c fc : Nat) (xs : List Spn) (ys : List Int), k ≤ sn ∧ m ≤ k ∧ s6 = .int .i64 k ∧ s4 = .slice bo m c ∧ s5 = .slice fo m fc ∧ Hid (OwJ W0.heap.size wr bo m c xs) ∧ Hid (Own .i64 3 W0.heap.size wr fo m fc ys) ∧ Hid (xs = twN sl k ∧ ys = twI sl k) ∧ Hid (Below W0.heap.size W0 wr)) (fun _ _ s6 _ => sn - (intOf s6).toNat)
  case atStart => exact ⟨0, 0, none, none, 0, 0, [], [], Nat.zero_le _, Nat.le_refl _, rfl, rfl, rfl, hid (owJ_nil _ _), hid (own_nil _ _ _ _), hid ⟨rfl, rfl⟩, hid (Below.refl _ _)⟩
  case round =>
    obtain ⟨k, m, bo, fo, c, fc, xs, ys, hk, hmk, rfl, rfl, rfl, HJ, HI, HE, HB⟩ := hrel
    have c6 := (HX.out.kept HB.out).cells.c6
    simp only at c6
    by_cases hlt : k < sn
    · obtain ⟨b, off, rfl, hbl, _⟩ := HT.out.here (by omega)
      obtain ⟨c0, c1, c2, c3, c4⟩ := HT.out.at HB.out hlt
      have hrg := HT.out.rgs hlt
      have hki : (k : Int) < (sn : Int) := by omega
      have HT2 : Hid (isTwo (sg sl k) = true → twN sl (k + 1) = xs ++ [⟨(sg sl k).pos, (sg sl k).len⟩] ∧ twI sl (k + 1) = ys ++ [(k : Int)]) := hid (fun e => by rw [(twN_yes e).1, (twN_yes e).2, HE.out.1, HE.out.2]; exact ⟨rfl, rfl⟩)
      have HF2 : Hid (isTwo (sg sl k) = false → xs = twN sl (k + 1) ∧ ys = twI sl (k + 1)) := hid (fun e => by rw [(twN_no e).1, (twN_no e).2]; exact HE.out)
      have hrb : RgP ⟨(sg sl k).pos, (sg sl k).len⟩ := ⟨hrg.p, hrg.l⟩
      have hwr := HB.out.size
      generalize sg sl k = s at *
      obtain ⟨g0, lv, tw, p, ln⟩ := s
      simp only at c0 c1 c2 c3 c4 HT2 HF2 hrb
      have hbA : Below wr.heap.size wr (wr.alloc (.cells #[.int .i64 g0, .bool lv, .bool tw, .int .i64 p, .int .i64 ln] 55)) := (Below.refl _ _).alloc (Nat.le_refl _) _
      have HBA := hid (next HB.out hbA)
      have HJA := hid (HJ.out.below hbA)
      have HIA := hid (HI.out.below hbA)
      have hblr : b < wr.heap.size := by omega
      have hm16 : (m + 1) * 16 ≤ 140737488355328 := by omega
      have hm8 : (m + 1) * 8 ≤ 140737488355328 := by omega
      by_cases ht : lv = true ∧ tw = true
      · obtain ⟨rfl, rfl⟩ := ht
        have HE2 := hid (HT2.out rfl)
        have hbO : Below wr.heap.size wr ((wr.alloc (.cells #[.int .i64 g0, .bool true, .bool true, .int .i64 p, .int .i64 ln] 55)).alloc (.cells #[.int .i64 p, .int .i64 ln] 58)) := hbA.alloc (by simp) _
        have HS := hid (st_object1 (wr.alloc (.cells #[.int .i64 g0, .bool true, .bool true, .int .i64 p, .int .i64 ln] 55)) (wr.heap.size + 1) ⟨p, ln⟩ (by simp) hrb)
        have HJ1 := hid (HJ.out.below hbO)
        have HI1 := hid (HI.out.below hbO)
        have HBO := hid (next HB.out hbO)
        have hszO : W0.heap.size ≤ ((wr.alloc (.cells #[.int .i64 g0, .bool true, .bool true, .int .i64 p, .int .i64 ln] 55)).alloc (.cells #[.int .i64 p, .int .i64 ln] 58)).heap.size := HBO.out.size
        have HZ : Hid (∀ w2, ((wr.alloc (.cells #[.int .i64 g0, .bool true, .bool true, .int .i64 p, .int .i64 ln] 55)).alloc (.cells #[.int .i64 p, .int .i64 ln] 58)).grownBy w2 (Value.slice bo m c).ownBlock → Own .i64 3 W0.heap.size (w2.alloc (.cells #[.int .i64 (k : Int)] 3)) fo m fc ys ∧ Below W0.heap.size W0 (w2.alloc (.cells #[.int .i64 (k : Int)] 3))) := hid (fun w2 hg => by
          have h1 : Own .i64 3 W0.heap.size w2 fo m fc ys := ⟨HI1.out.len, HI1.out.row.kept hg (rows_diff HI1.out.row HJ1.out.row (by decide))⟩
          have h2 : Below W0.heap.size W0 w2 := HBO.out.grown hg hszO (fun j hj => (HJ1.out.row.lt j hj).1)
          exact ⟨h1.below ((Below.refl _ _).alloc (Nat.le_refl _) _), h2.alloc h2.size _⟩)
        have HZ2 : Hid (∀ w2 w3 bo2 c2', OwJ W0.heap.size w2 bo2 (m + 1) c2' (xs ++ [⟨p, ln⟩]) → Own .i64 3 W0.heap.size (w2.alloc (.cells #[.int .i64 (k : Int)] 3)) fo m fc ys → (w2.alloc (.cells #[.int .i64 (k : Int)] 3)).grownBy w3 (Value.slice fo m fc).ownBlock → OwJ W0.heap.size w3 bo2 (m + 1) c2' (xs ++ [⟨p, ln⟩])) := hid (fun w2 w3 bo2 c2' h1 h2 hg => by
          have h3 := h1.below ((Below.refl _ w2).alloc (Nat.le_refl _) (.cells #[.int .i64 (k : Int)] 3))
          exact ⟨h3.len, h3.row.kept hg (rows_diff h3.row h2.row (by decide)), h3.rg⟩)
        clear HT2 HF2 hbO hbA hrb hrg HI1 HJA HIA HBA HJ HI HE
        go_wp2_with (first
          | (at_builtin; refine append_js rfl (.tmp 26) (.tmp 32) rfl W0.heap.size _ m xs rfl HJ1.out.row HJ1.out.rg (some ⟨wr.heap.size + 1, 0, none⟩) 1 1 [⟨p, ln⟩] rfl HS.out hm16 hszO ?_; intro bo2 c2' w2 ho2 hg2; obtain ⟨hi2, hb2⟩ := HZ.out w2 hg2; have HI2 := hid hi2; have HB2 := hid hb2; have HJ2 := hid ho2; have HS2 := hid (sl_int w2 w2.heap.size (k : Int) rfl); have hsz2 := hb2.size; clear ho2 hg2 hi2 hb2)
          | (at_builtin; refine append_il rfl (.tmp 34) (.tmp 36) rfl W0.heap.size _ m ys rfl HI2.out.row (some ⟨w2.heap.size, 0, none⟩) 1 1 [(k : Int)] rfl HS2.out hm8 hsz2 ?_; intro fo2 fc2 w3 ho3 hg3 _; have HI3 := hid ho3; have HJ3 := hid (HZ2.out w2 w3 bo2 c2' HJ2.out HI2.out hg3); have HB3 := hid (HB2.out.grown hg3 hsz2 (fun j hj => (HI2.out.row.lt j hj).1)); clear ho3 hg3))
        go_roundw
        case rel => exact ⟨k + 1, m + 1, bo2, fo2, c2', fc2, xs ++ [⟨p, ln⟩], ys ++ [(k : Int)], by omega, by omega, by go_num, rfl, rfl, HJ3, HI3, hid ⟨HE2.out.1.symm, HE2.out.2.symm⟩, HB3⟩
        case measure => simp [intOf]; omega
      · have HE2 := hid (HF2.out (by unfold isTwo; revert ht; cases lv <;> cases tw <;> simp))
        clear HT2 HF2 hrb hrg HE HJ HI hbA
        cases lv with
        | false =>
          go_wp2
          go_roundw
          case rel => exact ⟨k + 1, m, bo, fo, c, fc, xs, ys, by omega, by omega, by go_num, rfl, rfl, HJA, HIA, HE2, HBA⟩
          case measure => simp [intOf]; omega
        | true =>
          cases tw with
          | true => exact absurd ⟨rfl, rfl⟩ ht
          | false =>
            go_wp2
            go_roundw
            case rel => exact ⟨k + 1, m, bo, fo, c, fc, xs, ys, by omega, by omega, by go_num, rfl, rfl, HJA, HIA, HE2, HBA⟩
            case measure => simp [intOf]; omega
    · obtain rfl : k = sn := by omega
      have hki : ¬ ((k : Int) < (k : Int)) := by omega
      have HP : Hid (xs = twL sl ∧ ys = twX sl) := hid (by rw [HE.out.1, HE.out.2]; unfold twL twX; rw [hl]; exact ⟨rfl, rfl⟩)
      clear HX HT HE
      go_wp2
      go_ret2
      exact ⟨bo, m, c, fo, fc, rfl, by rw [← HP.out.1]; exact HJ.out.mono hbw, by rw [← HP.out.2]; exact HI.out.mono hbw, by omega, next HB0.out HB.out⟩
end Go.Proofs.YtpbljjbhfhfmgaaGreatDoor
/- joistref18.Ones by its contract. -/
namespace Go.Proofs.YtpbljjbhfhfmgaaGreatDoor
set_option maxRecDepth 100000
open Go.RowKit
set_option linter.unusedVariables false
set_option linter.unusedSimpArgs false
set_option maxRecDepth 100000

theorem Bs.pre {w : World} {ao : Option Addr} {n cap : Nat} {l : List Blk} (h : Bs w ao n cap l) {j : Nat} (hj : j ≤ n) : Bs w ao j cap (l.take j) := by
  have hl := h.len
  have hr := h.room
  refine ⟨by simp; omega, by omega, h.void, fun hp => ?_, fun s hs => h.rg s (List.mem_of_mem_take hs)⟩
  obtain ⟨b, off, e, hlt, hc⟩ := h.here (by omega)
  refine ⟨b, off, e, hlt, fun i hi => ?_⟩
  have e2 : ba (l.take j) i = ba l i := by simp only [ba, List.getD]; rw [List.getElem?_take, if_pos hi]
  rw [e2]
  exact hc i (by omega)
theorem Bs.post {w : World} {g o n cap : Nat} {l : List Blk} (h : Bs w (some ⟨g, o, none⟩) n cap l) {j : Nat} (hj : j ≤ n) : Bs w (some ⟨g, o + j * 3, none⟩) (n - j) (cap - j) (l.drop j) := by
  have hl := h.len
  have hr := h.room
  refine ⟨by simp; omega, by omega, (by intro e; cases e), fun hp => ?_, fun s hs => h.rg s (List.mem_of_mem_drop hs)⟩
  obtain ⟨b, off, e, hlt, hc⟩ := h.here (by omega)
  cases e
  refine ⟨g, o + j * 3, rfl, hlt, fun i hi => ?_⟩
  have e2 : ba (l.drop j) i = ba l (j + i) := by simp only [ba, List.getD, List.getElem?_drop]
  rw [e2, Nat.add_assoc, ← Nat.add_mul]
  exact hc (j + i) (by omega)
theorem Bs.nul {w : World} (ao : Option Addr) (ha : ao ≠ none) (c : Nat) : Bs w ao 0 c [] := ⟨rfl, Nat.zero_le _, fun e => absurd e ha, fun h => absurd h (by omega), fun s hs => by cases hs⟩
set_option maxHeartbeats 4000000 in
theorem rones_any (v : StV) (x : Stt) (w : World) (h : Sta w v x) (hn : v.sn ≤ 100000) :
    Calls Tryz.prog 15 #[.agg (stC v x)] w fun e w' => ∃ bo m c, e = .returned (.slice bo m c) ∧ OwB w.heap.size w' bo m c (onL x.sl) ∧ m ≤ v.sn ∧ Below w.heap.size w w' := by
  have hb0 := st_box w v x
  have hB := bxT_new w v x
  have hs := h.s.below hb0
  have hl := h.s.len
  obtain ⟨shp, md, bs, sl, rt, dt⟩ := x
  obtain ⟨so, sn, sc, ro, rn, rc, to, tn, tc, A, N, C⟩ := v
  simp only [stC] at *
  clear h
  go_enter Tryz.func15, Tryz.ntmps15
  go_wp2
  generalize w.alloc (.cells #[.int .i64 shp.pg, .int .i64 shp.sl, .int .i64 shp.rt, .int .i64 shp.rm, .int .i64 md, .int .i64 bs, .slice so sn sc, .slice ro rn rc, .slice to tn tc] 28) = W0 at *
  have HX := hid hB
  have HT := hid hs
  have HB0 := hid hb0
  have hbw := hb0.size
  have hxl := hB.lt
  clear hB hs hb0
  go_loopw [3, 4] (fun s3 s4 wr => ∃ (k m : Nat) (bo : Option Addr) (c : Nat) (xs : List Blk), k ≤ sn ∧ m ≤ k ∧ s4 = .int .i64 k ∧ s3 = .slice bo m c ∧ Hid (OwB W0.heap.size wr bo m c xs) ∧ Hid (xs = onN sl k) ∧ Hid (m = 0 → bo = none ∧ c = 0) ∧ Hid (Below W0.heap.size W0 wr)) (fun _ s4 _ => sn - (intOf s4).toNat)
  case atStart => exact ⟨0, 0, none, 0, [], Nat.zero_le _, Nat.le_refl _, rfl, rfl, hid (owB_nil _ _), hid rfl, hid (fun _ => ⟨rfl, rfl⟩), hid (Below.refl _ _)⟩
  case round =>
    obtain ⟨k, m, bo, c, xs, hk, hmk, rfl, rfl, HO, HE, HN, HB⟩ := hrel
    have c6 := (HX.out.kept HB.out).cells.c6
    simp only at c6
    by_cases hlt : k < sn
    · obtain ⟨b, off, rfl, hbl, -⟩ := HT.out.here (by omega)
      obtain ⟨c0, c1, c2, c3, c4⟩ := HT.out.at HB.out hlt
      have hrg := HT.out.rgs hlt
      have hki : (k : Int) < (sn : Int) := by omega
      have HT2 : Hid (isOne (sg sl k) = true → onN sl (k + 1) = insB xs ⟨(sg sl k).pos, ndN (sg sl k).len, (k : Int)⟩) := hid (fun e => by rw [onN_yes e, HE.out]; rfl)
      have HF2 : Hid (isOne (sg sl k) = false → xs = onN sl (k + 1)) := hid (fun e => by rw [onN_no e]; exact HE.out)
      have hrb : RgB ⟨(sg sl k).pos, ndN (sg sl k).len, (k : Int)⟩ := ⟨hrg.p, nd_rg _, by show Rg (k : Int); unfold Rg; omega⟩
      have hwr := HB.out.size
      generalize sg sl k = s at *
      obtain ⟨g0, lv, tw, p, ln⟩ := s
      simp only at c0 c1 c2 c3 c4 HT2 HF2 hrb
      have hbA : Below wr.heap.size wr (wr.alloc (.cells #[.int .i64 g0, .bool lv, .bool tw, .int .i64 p, .int .i64 ln] 55)) := (Below.refl _ _).alloc (Nat.le_refl _) _
      have HBA := hid (next HB.out hbA)
      have HOA := hid (HO.out.below hbA)
      have hblr : b < wr.heap.size := by omega
      have hxl2 : xs.length = m := HO.out.len
      by_cases ht : lv = true ∧ tw = false
      · obtain ⟨rfl, rfl⟩ := ht
        have HE2 := hid (HT2.out rfl)
        have hsA : S5 (wr.alloc (.cells #[.int .i64 g0, .bool true, .bool false, .int .i64 p, .int .i64 ln] 55)) wr.heap.size 0 ⟨g0, true, false, p, ln⟩ := by
          refine S5.of fun j u hu => ?_
          rw [cell_of_row _ wr.heap.size _ _ 55 (0, 0) (heap_alloc_new wr _)]
          simpa [Slt.cells] using hu
        have HSA := hid hsA
        have cN := fun w' => rneed_any ln w'
        clear HT2 HF2 hrg HO HE hbA hsA
        generalize ndN ln = z at *
        generalize ndE ln = ez at *
        go_wp2_with (first
          | (go_at_call 43; with_reducible refine (cN _).mono ?_; rintro e w2 ⟨rfl, rfl⟩))
        have hW1 : wr.heap.size < (wr.alloc (.cells #[.int .i64 g0, .bool true, .bool false, .int .i64 p, .int .i64 ln] 55)).heap.size := by simp
        have hW2 : W0.heap.size ≤ (wr.alloc (.cells #[.int .i64 g0, .bool true, .bool false, .int .i64 p, .int .i64 ln] 55)).heap.size := by omega
        clear c0 c1 c2 c3 c4 c6 cN
        generalize wr.alloc (.cells #[.int .i64 g0, .bool true, .bool false, .int .i64 p, .int .i64 ln] 55) = W1 at *
        go_loopw [8] (fun s8 w2 => ∃ i : Nat, i ≤ m ∧ s8 = .int .i64 i ∧ Hid (∀ j, j < i → (ba xs j).pos ≤ p) ∧ Hid (Below W1.heap.size W1 w2)) (fun s8 _ => m - (intOf s8).toNat)
        case atStart => exact ⟨0, Nat.zero_le _, rfl, hid (fun j hj => absurd hj (by omega)), hid (Below.refl _ _)⟩
        case round =>
          obtain ⟨i, hi, rfl, HI, HW⟩ := hrel
          have q3 := (HSA.out.below HW.out).c3
          simp only [Nat.zero_add] at q3
          by_cases hgo : i < m ∧ (ba xs i).pos ≤ p
          · obtain ⟨him, hle⟩ := hgo
            obtain ⟨g, rfl, hg1, hg2⟩ := HOA.out.shape (by omega)
            have d0 := (HOA.out.bs.at HW.out him).c0
            rw [Nat.zero_add] at d0
            have hii : (i : Int) < (m : Int) := by omega
            have HI2 : Hid (∀ j, j < i + 1 → (ba xs j).pos ≤ p) := hid (fun j hj => by
              by_cases e : j = i
              · subst e; exact hle
              · exact HI.out j (by omega))
            generalize (ba xs i).pos = q at *
            clear HI
            go_wp2
            go_quiet (fail)
            go_wp2
            go_roundw
            case rel => exact ⟨i + 1, by omega, by go_num, HI2, hid (below_drewN HW.out _)⟩
            case measure => simp [intOf]; omega
          · have hst : i = m ∨ (i < m ∧ ¬ (ba xs i).pos ≤ p) := by
              by_cases e : i < m
              · exact .inr ⟨e, fun e2 => hgo ⟨e, e2⟩⟩
              · exact .inl (by omega)
            have HK : Hid (xs.take i ++ (⟨p, z, (k : Int)⟩ :: xs.drop i) = onN sl (k + 1)) := hid (by
              rw [HE2.out]
              have e : insK xs p = i := insK_is HI.out (by omega) (hst.elim (fun e => .inl (by omega)) (fun e => .inr e.2))
              unfold insB
              simp only
              rw [e])
            clear hgo HE2
            by_cases hm0 : m = 0
            · subst hm0
              obtain rfl : i = 0 := by omega
              obtain ⟨rfl, rfl⟩ := HN.out rfl
              obtain rfl : xs = [] := List.eq_nil_of_length_eq_zero hxl2
              have hii : ¬ ((0 : Int) < (0 : Int)) := by omega
              clear hst
              go_wp2
              go_quiet (fail)
              have HWq := hid (below_drewN HW.out nq)
              have HBs := hid (HOA.out.bs.below HWq.out)
              clear HOA HI HW
              generalize wr.drewN nq = W2 at *
              have hW12 := HWq.out.size
              have HA : Hid (Bs W2 none 0 0 []) := hid (bs_nil _)
              go_wp2_with (first
                | (at_builtin; refine append_bs rfl (.tmp 51) (.tmp 54) rfl W2.heap.size _ 0 [] rfl (World.ownsRow_nil _ _ _ _) (by intro x hx; cases hx) none 0 0 [] rfl HA.out (by omega) (Nat.le_refl _) ?_; intro n1 k1 w3 ho3 hg3; rw [Nat.zero_add, List.nil_append] at ho3; have hb3 : Below W2.heap.size W2 w3 := (Below.refl _ _).grown hg3 (Nat.le_refl _) (by intro j hj; cases hj); have HO3 := hid (ho3.below ((Below.refl _ w3).alloc (Nat.le_refl _) (.cells #[.int .i64 p, .int .i64 z, .int .i64 (k : Int)] 70))); have HB3 := hid (hb3.alloc hb3.size (.cells #[.int .i64 p, .int .i64 z, .int .i64 (k : Int)] 70)); have HS3 := hid (st_block1 w3 w3.heap.size ⟨p, z, (k : Int)⟩ rfl hrb); have hsz3 := HB3.out.size; have q3 := (HSA.out.below (next HWq.out hb3)).c3; simp only [Nat.zero_add] at q3; clear ho3 hg3 hb3)
                | (at_builtin; refine append_bs rfl (.tmp 56) (.tmp 62) rfl W2.heap.size _ 0 [] rfl HO3.out.row HO3.out.rg (some ⟨w3.heap.size, 0, none⟩) 1 1 [⟨p, z, (k : Int)⟩] rfl HS3.out (by omega) hsz3 ?_; intro n2 k2 w4 ho4 hg4; have HB4 := hid (HB3.out.grown hg4 hsz3 (fun j hj => (HO3.out.row.lt j hj).1)); have HO4 := hid ho4; have HC4 : Hid (Bs w4 none 0 0 []) := hid (bs_nil _); have hsz4 := HB4.out.size; clear ho4 hg4)
                | (at_builtin; refine append_bs rfl (.tmp 64) (.tmp 67) rfl W2.heap.size _ (0 + 1) _ rfl HO4.out.row HO4.out.rg none 0 0 [] rfl HC4.out (by omega) hsz4 ?_; intro n3 k3 w5 ho5 hg5; have HB5 := hid (HB4.out.grown hg5 hsz4 (fun j hj => (HO4.out.row.lt j hj).1)); have HO5 := hid ho5; clear ho5 hg5))
              go_roundw
              case rel => exact ⟨k + 1, _, n3, k3, _, by omega, by omega, by go_num, rfl, hid (HO5.out.mono (by omega)), hid (by have := HK.out; simpa using this), hid (fun e => absurd e (by omega)), hid (next HBA.out (next HWq.out HB5.out))⟩
              case measure => simp [intOf]; omega
            · obtain ⟨g, rfl, hg1, hg2⟩ := HOA.out.shape (by omega)
              have hroom := HOA.out.cap_le
              have hic : i ≤ c := by omega
              have hic2 : (i : Int) ≤ (c : Int) := by omega
              have hi0 : (0 : Int) ≤ (i : Int) := by omega
              have hmc : (m : Int) ≤ (c : Int) := by omega
              have him2 : (i : Int) ≤ (m : Int) := by omega
              have hmc2 : m ≤ c := by omega
              have hcb : c ≤ 9223372036854775807 := by omega
              have hmi : (m - i : Nat) + i = m := by omega
              rcases hst with hst | ⟨hst, hnle⟩
              · subst hst
                have hii : ¬ ((i : Int) < (i : Int)) := by omega
                by_cases hci : c = i
                · subst hci
                  clear hic hic2 hmc him2 hmc2 hmi hroom
                  have HD0 : Hid (xs.drop c = []) := hid (List.drop_of_length_le (by omega))
                  go_wp2
                  go_quiet (fail)
                  have HWq := hid (below_drewN HW.out nq)
                  have HBs := hid (HOA.out.bs.below HWq.out)
                  clear HOA HI HW
                  generalize wr.drewN nq = W2 at *
                  have hW12 := HWq.out.size
                  have HA : Hid (Bs W2 (some ⟨g, 0, none⟩) c c (xs.take c)) := hid (HBs.out.pre (Nat.le_refl _))
                  go_wp2_with (first
                    | (at_builtin; refine append_bs rfl (.tmp 51) (.tmp 54) rfl W2.heap.size _ 0 [] rfl (World.ownsRow_nil _ _ _ _) (by intro x hx; cases hx) (some ⟨g, 0, none⟩) c c (xs.take c) rfl HA.out (by omega) (Nat.le_refl _) ?_; intro n1 k1 w3 ho3 hg3; rw [Nat.zero_add, List.nil_append] at ho3; have hb3 : Below W2.heap.size W2 w3 := (Below.refl _ _).grown hg3 (Nat.le_refl _) (by intro j hj; cases hj); have HO3 := hid (ho3.below ((Below.refl _ w3).alloc (Nat.le_refl _) (.cells #[.int .i64 p, .int .i64 z, .int .i64 (k : Int)] 70))); have HB3 := hid (hb3.alloc hb3.size (.cells #[.int .i64 p, .int .i64 z, .int .i64 (k : Int)] 70)); have HS3 := hid (st_block1 w3 w3.heap.size ⟨p, z, (k : Int)⟩ rfl hrb); have hsz3 := HB3.out.size; have q3 := (HSA.out.below (next HWq.out hb3)).c3; simp only [Nat.zero_add] at q3; clear ho3 hg3 hb3)
                    | (at_builtin; refine append_bs rfl (.tmp 56) (.tmp 62) rfl W2.heap.size _ c (xs.take c) rfl HO3.out.row HO3.out.rg (some ⟨w3.heap.size, 0, none⟩) 1 1 [⟨p, z, (k : Int)⟩] rfl HS3.out (by omega) hsz3 ?_; intro n2 k2 w4 ho4 hg4; have HB4 := hid (HB3.out.grown hg4 hsz3 (fun j hj => (HO3.out.row.lt j hj).1)); have HO4 := hid ho4; have HC4 : Hid (Bs w4 (some ⟨g, 0, none⟩) 0 0 []) := hid (Bs.nul _ (by intro h; cases h) 0); have hsz4 := HB4.out.size; clear ho4 hg4)
                    | (at_builtin; refine append_bs rfl (.tmp 64) (.tmp 67) rfl W2.heap.size _ (c + 1) _ rfl HO4.out.row HO4.out.rg (some ⟨g, 0, none⟩) 0 0 [] rfl HC4.out (by omega) hsz4 ?_; intro n3 k3 w5 ho5 hg5; have HB5 := hid (HB4.out.grown hg5 hsz4 (fun j hj => (HO4.out.row.lt j hj).1)); have HO5 := hid ho5; clear ho5 hg5))
                  go_roundw
                  case rel => exact ⟨k + 1, _, n3, k3, _, by omega, by omega, by go_num, rfl, hid (HO5.out.mono (by omega)), hid (by rw [← HK.out, HD0.out]; simp), hid (fun e => absurd e (by omega)), hid (next HBA.out (next HWq.out HB5.out))⟩
                  case measure => simp [intOf]; omega
                · have hci2 : ¬ (c : Int) = (i : Int) := by omega
                  have HD0 : Hid (xs.drop i = []) := hid (List.drop_of_length_le (by omega))
                  go_wp2
                  go_quiet (fail)
                  have HWq := hid (below_drewN HW.out nq)
                  have HBs := hid (HOA.out.bs.below HWq.out)
                  clear HOA HI HW
                  generalize wr.drewN nq = W2 at *
                  have hW12 := HWq.out.size
                  have HA : Hid (Bs W2 (some ⟨g, 0, none⟩) i c (xs.take i)) := hid (HBs.out.pre (Nat.le_refl _))
                  go_wp2_with (first
                    | (at_builtin; refine append_bs rfl (.tmp 51) (.tmp 54) rfl W2.heap.size _ 0 [] rfl (World.ownsRow_nil _ _ _ _) (by intro x hx; cases hx) (some ⟨g, 0, none⟩) i c (xs.take i) rfl HA.out (by omega) (Nat.le_refl _) ?_; intro n1 k1 w3 ho3 hg3; rw [Nat.zero_add, List.nil_append] at ho3; have hb3 : Below W2.heap.size W2 w3 := (Below.refl _ _).grown hg3 (Nat.le_refl _) (by intro j hj; cases hj); have HO3 := hid (ho3.below ((Below.refl _ w3).alloc (Nat.le_refl _) (.cells #[.int .i64 p, .int .i64 z, .int .i64 (k : Int)] 70))); have HB3 := hid (hb3.alloc hb3.size (.cells #[.int .i64 p, .int .i64 z, .int .i64 (k : Int)] 70)); have HS3 := hid (st_block1 w3 w3.heap.size ⟨p, z, (k : Int)⟩ rfl hrb); have hsz3 := HB3.out.size; have q3 := (HSA.out.below (next HWq.out hb3)).c3; simp only [Nat.zero_add] at q3; clear ho3 hg3 hb3)
                    | (at_builtin; refine append_bs rfl (.tmp 56) (.tmp 62) rfl W2.heap.size _ i (xs.take i) rfl HO3.out.row HO3.out.rg (some ⟨w3.heap.size, 0, none⟩) 1 1 [⟨p, z, (k : Int)⟩] rfl HS3.out (by omega) hsz3 ?_; intro n2 k2 w4 ho4 hg4; have HB4 := hid (HB3.out.grown hg4 hsz3 (fun j hj => (HO3.out.row.lt j hj).1)); have HO4 := hid ho4; have HC4 : Hid (Bs w4 (some ⟨g, i * 3, none⟩) 0 (c - i) []) := hid (Bs.nul _ (by intro h; cases h) (c - i)); have hsz4 := HB4.out.size; clear ho4 hg4)
                    | (at_builtin; refine append_bs rfl (.tmp 64) (.tmp 67) rfl W2.heap.size _ (i + 1) _ rfl HO4.out.row HO4.out.rg (some ⟨g, i * 3, none⟩) 0 (c - i) [] rfl HC4.out (by omega) hsz4 ?_; intro n3 k3 w5 ho5 hg5; have HB5 := hid (HB4.out.grown hg5 hsz4 (fun j hj => (HO4.out.row.lt j hj).1)); have HO5 := hid ho5; clear ho5 hg5))
                  go_roundw
                  case rel => exact ⟨k + 1, _, n3, k3, _, by omega, by omega, by go_num, rfl, hid (HO5.out.mono (by omega)), hid (by rw [← HK.out, HD0.out]; simp), hid (fun e => absurd e (by omega)), hid (next HBA.out (next HWq.out HB5.out))⟩
                  case measure => simp [intOf]; omega
              · have hci : ¬ c = i := by omega
                have hci2 : ¬ (c : Int) = (i : Int) := by omega
                have hii : (i : Int) < (m : Int) := by omega
                have d0 := (HOA.out.bs.at HW.out hst).c0
                rw [Nat.zero_add] at d0
                generalize (ba xs i).pos = q at *
                have hqp : decide (q ≤ p) = false := decide_eq_false hnle
                go_wp2
                go_quiet (fail)
                have HWq := hid (below_drewN HW.out nq)
                have HBs := hid (HOA.out.bs.below HWq.out)
                clear HOA HI HW
                generalize wr.drewN nq = W2 at *
                have hW12 := HWq.out.size
                have HA : Hid (Bs W2 (some ⟨g, 0, none⟩) i c (xs.take i)) := hid (HBs.out.pre (by omega))
                go_wp2_with (first
                  | (at_builtin; refine append_bs rfl (.tmp 51) (.tmp 54) rfl W2.heap.size _ 0 [] rfl (World.ownsRow_nil _ _ _ _) (by intro x hx; cases hx) (some ⟨g, 0, none⟩) i c (xs.take i) rfl HA.out (by omega) (Nat.le_refl _) ?_; intro n1 k1 w3 ho3 hg3; rw [Nat.zero_add, List.nil_append] at ho3; have hb3 : Below W2.heap.size W2 w3 := (Below.refl _ _).grown hg3 (Nat.le_refl _) (by intro j hj; cases hj); have HO3 := hid (ho3.below ((Below.refl _ w3).alloc (Nat.le_refl _) (.cells #[.int .i64 p, .int .i64 z, .int .i64 (k : Int)] 70))); have HB3 := hid (hb3.alloc hb3.size (.cells #[.int .i64 p, .int .i64 z, .int .i64 (k : Int)] 70)); have HS3 := hid (st_block1 w3 w3.heap.size ⟨p, z, (k : Int)⟩ rfl hrb); have hsz3 := HB3.out.size; have q3 := (HSA.out.below (next HWq.out hb3)).c3; simp only [Nat.zero_add] at q3; clear ho3 hg3 hb3)
                  | (at_builtin; refine append_bs rfl (.tmp 56) (.tmp 62) rfl W2.heap.size _ i (xs.take i) rfl HO3.out.row HO3.out.rg (some ⟨w3.heap.size, 0, none⟩) 1 1 [⟨p, z, (k : Int)⟩] rfl HS3.out (by omega) hsz3 ?_; intro n2 k2 w4 ho4 hg4; have HB4 := hid (HB3.out.grown hg4 hsz3 (fun j hj => (HO3.out.row.lt j hj).1)); have HO4 := hid ho4; have HC4 : Hid (Bs w4 (some ⟨g, i * 3, none⟩) (m - i) (c - i) (xs.drop i)) := hid (by have := (HBs.out.post (j := i) (by omega)).below HB4.out; rwa [Nat.zero_add] at this); have hsz4 := HB4.out.size; clear ho4 hg4)
                  | (at_builtin; refine append_bs rfl (.tmp 64) (.tmp 67) rfl W2.heap.size _ (i + 1) _ rfl HO4.out.row HO4.out.rg (some ⟨g, i * 3, none⟩) (m - i) (c - i) (xs.drop i) rfl HC4.out (by omega) hsz4 ?_; intro n3 k3 w5 ho5 hg5; have HB5 := hid (HB4.out.grown hg5 hsz4 (fun j hj => (HO4.out.row.lt j hj).1)); have HO5 := hid ho5; clear ho5 hg5))
                go_roundw
                case rel => exact ⟨k + 1, _, n3, k3, _, by omega, by omega, by go_num, rfl, hid (HO5.out.mono (by omega)), hid (by rw [← HK.out]; simp), hid (fun e => absurd e (by omega)), hid (next HBA.out (next HWq.out HB5.out))⟩
                case measure => simp [intOf]; omega
      · have HE2 := hid (HF2.out (by unfold isOne; revert ht; cases lv <;> cases tw <;> simp))
        clear HT2 HF2 hrb hrg HE HO hbA
        cases lv with
        | false =>
          go_wp2
          go_roundw
          case rel => exact ⟨k + 1, m, bo, c, xs, by omega, by omega, by go_num, rfl, HOA, HE2, HN, HBA⟩
          case measure => simp [intOf]; omega
        | true =>
          cases tw with
          | false => exact absurd ⟨rfl, rfl⟩ ht
          | true =>
            go_wp2
            go_roundw
            case rel => exact ⟨k + 1, m, bo, c, xs, by omega, by omega, by go_num, rfl, HOA, HE2, HN, HBA⟩
            case measure => simp [intOf]; omega
    · obtain rfl : k = sn := by omega
      have hki : ¬ ((k : Int) < (k : Int)) := by omega
      have HP : Hid (xs = onL sl) := hid (by rw [HE.out]; unfold onL; rw [hl])
      clear HX HT HE
      go_wp2
      go_ret
      exact ⟨bo, m, c, rfl, by rw [← HP.out]; exact HO.out.mono hbw, by omega, next HB0.out HB.out⟩
end Go.Proofs.YtpbljjbhfhfmgaaGreatDoor
