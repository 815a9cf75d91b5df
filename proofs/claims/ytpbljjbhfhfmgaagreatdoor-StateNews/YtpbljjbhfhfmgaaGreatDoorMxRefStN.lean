/- RefStN: these texts, one behind another. -/
import Derived.Test.YtpbljjbhfhfmgaaGreatDoorMxStW
import Derived.Test.YtpbljjbhfhfmgaaGreatDoorMxNtP
import Derived.Test.YtpbljjbhfhfmgaaGreatDoorMxTabA
import Derived.Test.YtpbljjbhfhfmgaaGreatDoorMxRootA
import Derived.Deep.DeepCutAuto
/- joistref18.New by its contract. -/
namespace Go.Proofs.YtpbljjbhfhfmgaaGreatDoor
set_option maxRecDepth 100000
open Go.RowKit
set_option linter.unusedVariables false
set_option linter.unusedSimpArgs false
set_option maxRecDepth 100000

theorem mk_slots (n : Nat) (hn : n ≤ 1000000) : ∀ w : World, (Instr.makeSlice 24 (.int .i64 (n : Int)) (.int .i64 (n : Int))).run Tryz.prog w = .ok (.slice (some ⟨w.heap.size, 0, none⟩) n n) (w.alloc (.cells (madeCells #[Value.int .i64 0, .bool false, .bool false, .int .i64 0, .int .i64 0] (n * 5)) 55)) := fun w => by
  obtain ⟨i0, hi, hz0, hz1, hz2⟩ := info_parts Tryz.info55
  have := run_make (P := Tryz.prog) w 24 55 i0 (.agg #[.int .i64 0, .bool false, .bool false, .int .i64 0, .int .i64 0]) Tryz.underlying24 hi hz0 .i64 .i64 n n (by omega) (by omega) (by rw [hz2]; omega) (by omega)
  rw [this, Int.toNat_natCast, hz1]
  rfl
theorem mk_roots (n : Nat) (hn : n ≤ 1000000) : ∀ w : World, (Instr.makeSlice 25 (.int .i64 (n : Int)) (.int .i64 (n : Int))).run Tryz.prog w = .ok (.slice (some ⟨w.heap.size, 0, none⟩) n n) (w.alloc (.cells (madeCells #[Value.string ⟨#[]⟩, .int .i64 0, .int .i64 0] (n * 3)) 52)) := fun w => by
  obtain ⟨i0, hi, hz0, hz1, hz2⟩ := info_parts Tryz.info52
  have := run_make (P := Tryz.prog) w 25 52 i0 (.agg #[.string ⟨#[]⟩, .int .i64 0, .int .i64 0]) Tryz.underlying25 hi hz0 .i64 .i64 n n (by omega) (by omega) (by rw [hz2]; omega) (by omega)
  rw [this, Int.toNat_natCast, hz1]
  rfl
theorem tb_made {W : World} {g n : Nat} (h : W.heap[g]? = some (.cells (madeCells #[Value.int .i64 0, .bool false, .bool false, .int .i64 0, .int .i64 0] (n * 5)) 55 (0, 0))) : Tb W (some ⟨g, 0, none⟩) n n (List.replicate n Slt.z) := by
  refine ⟨by simp, Nat.le_refl _, (by intro e; cases e), fun _ => ⟨g, 0, rfl, (Array.getElem?_eq_some_iff.1 h).1, fun i hi => S5.of fun j u hu => ?_⟩, fun s hs => by rw [List.eq_of_mem_replicate hs]; exact rgs_z⟩
  have hj : j < 5 := (List.getElem?_eq_some_iff.1 hu).1
  have h1 := cellsT_get (List.replicate n Slt.z) (i := i) (j := j) (by simpa using hi) hj
  rw [hu, ← made_slots, Array.getElem?_toList] at h1
  rw [Nat.zero_add, cell_of_row W g _ _ 55 (0, 0) h]
  exact h1
theorem rs_made {W : World} {g n : Nat} (h : W.heap[g]? = some (.cells (madeCells #[Value.string ⟨#[]⟩, .int .i64 0, .int .i64 0] (n * 3)) 52 (0, 0))) : Rs W (some ⟨g, 0, none⟩) n n (List.replicate n Rt.z) := by
  refine ⟨by simp, Nat.le_refl _, (by intro e; cases e), fun _ => ⟨g, 0, rfl, (Array.getElem?_eq_some_iff.1 h).1, fun i hi => R3.of fun j u hu => ?_⟩, fun s hs => by rw [List.eq_of_mem_replicate hs]; exact rgr_z⟩
  have hj : j < 3 := (List.getElem?_eq_some_iff.1 hu).1
  have h1 := cellsR_get (List.replicate n Rt.z) (i := i) (j := j) (by simpa using hi) hj
  rw [hu, ← made_roots, Array.getElem?_toList] at h1
  rw [Nat.zero_add, cell_of_row W g _ _ 52 (0, 0) h]
  exact h1
theorem al0 (w : World) (x0 x1 x2 x3 : Obj) : ((((w.alloc x0).alloc x1).alloc x2).alloc x3).drew.heap[w.heap.size]? = some x0 := by
  show ((((w.heap.push x0).push x1).push x2).push x3)[w.heap.size]? = some x0
  have e : ∀ (a : Array Obj) (n : Nat), a.size = n → ((((a.push x0).push x1).push x2).push x3)[n + 0]? = some x0 := fun a n h => by
    subst h
    simp only [Array.getElem?_push, Array.size_push]
    repeat (first | rw [if_pos trivial] | rw [if_pos (by omega)] | rw [if_neg (by omega)])
  exact e w.heap _ rfl
theorem al1 (w : World) (x0 x1 x2 x3 : Obj) : ((((w.alloc x0).alloc x1).alloc x2).alloc x3).drew.heap[w.heap.size + 1]? = some x1 := by
  show ((((w.heap.push x0).push x1).push x2).push x3)[w.heap.size + 1]? = some x1
  have e : ∀ (a : Array Obj) (n : Nat), a.size = n → ((((a.push x0).push x1).push x2).push x3)[n + 1]? = some x1 := fun a n h => by
    subst h
    simp only [Array.getElem?_push, Array.size_push]
    repeat (first | rw [if_pos trivial] | rw [if_pos (by omega)] | rw [if_neg (by omega)])
  exact e w.heap _ rfl
theorem al2 (w : World) (x0 x1 x2 x3 : Obj) : ((((w.alloc x0).alloc x1).alloc x2).alloc x3).drew.heap[w.heap.size + 1 + 1]? = some x2 := by
  show ((((w.heap.push x0).push x1).push x2).push x3)[w.heap.size + 1 + 1]? = some x2
  have e : ∀ (a : Array Obj) (n : Nat), a.size = n → ((((a.push x0).push x1).push x2).push x3)[n + 2]? = some x2 := fun a n h => by
    subst h
    simp only [Array.getElem?_push, Array.size_push]
    repeat (first | rw [if_pos trivial] | rw [if_pos (by omega)] | rw [if_neg (by omega)])
  exact e w.heap _ rfl
theorem al3 (w : World) (x0 x1 x2 x3 : Obj) : ((((w.alloc x0).alloc x1).alloc x2).alloc x3).drew.heap[w.heap.size + 1 + 1 + 1]? = some x3 := by
  show ((((w.heap.push x0).push x1).push x2).push x3)[w.heap.size + 1 + 1 + 1]? = some x3
  have e : ∀ (a : Array Obj) (n : Nat), a.size = n → ((((a.push x0).push x1).push x2).push x3)[n + 3]? = some x3 := fun a n h => by
    subst h
    simp only [Array.getElem?_push, Array.size_push]
    repeat (first | rw [if_pos trivial] | rw [if_pos (by omega)] | rw [if_neg (by omega)])
  exact e w.heap _ rfl
/-- What stands behind the literal. -/
structure RnW (w1 wx : World) (pg m1 m : Int) (ns nr g a b d : Nat) : Prop where
  bl : Below w1.heap.size w1 wx
  gw : w1.heap.size ≤ g
  gz : wx.heap[g]? = some (.cells #[.int .i64 pg, .int .i64 (ns : Int), .int .i64 (nr : Int), .int .i64 m1, .int .i64 m, .int .i64 0, .slice (some ⟨a, 0, none⟩) ns ns, .slice (some ⟨b, 0, none⟩) nr nr, .slice (some ⟨d, 0, none⟩) ns ns] 28 (0, 0))
  ha : wx.heap[a]? = some (.cells (madeCells #[Value.int .i64 0, .bool false, .bool false, .int .i64 0, .int .i64 0] (ns * 5)) 55 (0, 0))
  hb : wx.heap[b]? = some (.cells (madeCells #[Value.string ⟨#[]⟩, .int .i64 0, .int .i64 0] (nr * 3)) 52 (0, 0))
  hd : wx.heap[d]? = some (.cells (Array.replicate ns (Value.slice none 0 0)) 48 (0, 0))
set_option maxHeartbeats 16000000 in
theorem rnewSt_ok (s : Shp) (gs : ShG s) (m : Int) (gm : Rg m) (w : World) (hm : m = 1 ∨ m = 2) (hok : NwOk s m) :
    Calls Tryz.prog 24 #[.agg #[.int .i64 s.pg, .int .i64 s.sl, .int .i64 s.rt, .int .i64 s.rm], .int .i64 m] w fun e w' => ∃ v, e = .returned (.tuple #[.agg (stC v (neS s m)), .int .i64 (neE s m)]) ∧ Sta w' v (neS s m) ∧ Below w.heap.size w w' := by
  have hT := nwT_start w s
  have HT := hid hT
  obtain ⟨q0, q1, q2, q3⟩ := hT.bx.cells
  have cR := fun w' => rrightS_any s.pg s.sl s.rt s.rm w'
  obtain ⟨n1, n2⟩ := ne_t hok
  rw [n1, n2]
  obtain ⟨hsh, hm12⟩ := hok
  have hsb : shB ⟨s.pg, s.sl, s.rt, s.rm⟩ = true := decide_eq_true hsh
  rw [hsb] at cR
  obtain ⟨h1, ⟨h2, h3, h4⟩, ⟨h5, h6, h7⟩, _, _⟩ := hsh
  obtain ⟨ns, hns⟩ := Int.eq_ofNat_of_zero_le (show 0 ≤ s.sl by omega)
  obtain ⟨nr, hnr⟩ := Int.eq_ofNat_of_zero_le (show 0 ≤ s.rt by omega)
  have hns32 : ns ≤ 32 := by omega
  have hnr8 : nr ≤ 8 := by omega
  have hmkT := mk_slots ns (by omega)
  have hmkR := mk_roots nr (by omega)
  have hmk := mk_rows ns (by omega)
  have HGS := hid gs
  obtain ⟨pg, s1, r1, m1⟩ := s
  simp only [stC, zStV, zSt] at *
  subst hns hnr
  clear hT n1 n2 gs hsb
  go_enter Tryz.func24, Tryz.ntmps24
  go_wp2_with fail
  generalize ((w.alloc (.cells #[.int .i64 pg, .int .i64 ns, .int .i64 nr, .int .i64 m1] 23)).alloc (.cells #[.int .i64 0, .int .i64 0, .int .i64 0, .int .i64 0, .int .i64 0, .int .i64 0, .slice none 0 0, .slice none 0 0, .slice none 0 0] 28)) = W0 at *
  refine (cR _).mono ?_
  rintro e w1 ⟨rfl, hb1⟩
  have tt := HT.out.call hb1
  obtain ⟨q0, q1, q2, q3⟩ := tt.bx.cells
  simp only at q0 q1 q2 q3
  have hw1 := tt.zz.lt
  have T1 := hid tt
  clear tt hb1
  have hlt0 : w.heap.size < w1.heap.size := by omega
  have KS : Hid (∀ W, Below w1.heap.size w1 W → W.cell? ⟨w.heap.size, 0, none⟩ = some (.int .i64 pg) ∧ W.cell? ⟨w.heap.size, 1, none⟩ = some (.int .i64 (ns : Int)) ∧ W.cell? ⟨w.heap.size, 2, none⟩ = some (.int .i64 (nr : Int)) ∧ W.cell? ⟨w.heap.size, 3, none⟩ = some (.int .i64 m1)) := hid (fun W hb => (T1.out.bx.kept hb).cells)
  have K1 : Hid (∀ o1, Below w1.heap.size w1 (w1.alloc o1).drew) := hid (fun o1 => ((Below.refl _ _).alloc (Nat.le_refl _) _).drew)
  have K2 : Hid (∀ o1 o2, Below w1.heap.size w1 ((w1.alloc o1).alloc o2).drew) := hid (fun o1 o2 => (((Below.refl _ _).alloc (Nat.le_refl _) _).alloc (by simp) _).drew)
  have K3 : Hid (∀ o1 o2 o3, Below w1.heap.size w1 (((w1.alloc o1).alloc o2).alloc o3).drew) := hid (fun o1 o2 o3 => ((((Below.refl _ _).alloc (Nat.le_refl _) _).alloc (by simp) _).alloc (by simp; omega) _).drew)
  have K4 : Hid (∀ o1 o2 o3 o4, Below w1.heap.size w1 ((((w1.alloc o1).alloc o2).alloc o3).alloc o4).drew) := hid (fun o1 o2 o3 o4 => (((((Below.refl _ _).alloc (Nat.le_refl _) _).alloc (by simp) _).alloc (by simp; omega) _).alloc (by simp; omega) _).drew)
  rcases hm with rfl | rfl
  · go_upto_region 4 with fail
    go_cut [7] (fun c wx => ∃ g a b d : Nat, c = .pointer (some ⟨g, 0, none⟩) ∧ Hid (RnW w1 wx pg m1 1 ns nr g a b d))
    case first =>
      go_region_held3 (fun w' => w'.cell? ⟨w.heap.size, 0, none⟩ = some (.int .i64 pg) ∧ w'.cell? ⟨w.heap.size, 1, none⟩ = some (.int .i64 (ns : Int)) ∧ w'.cell? ⟨w.heap.size, 2, none⟩ = some (.int .i64 (nr : Int)) ∧ w'.cell? ⟨w.heap.size, 3, none⟩ = some (.int .i64 m1)) (first | exact KS.out _ (K1.out _) | exact KS.out _ (K2.out _ _) | exact KS.out _ (K3.out _ _ _) | exact KS.out _ (K4.out _ _ _ _) | go_keep) (fail)
      all_goals as_aux_lemma =>
        go_wp2_with fail
        go_meet
        apply Exists.intro
        apply Exists.intro
        apply Exists.intro
        apply Exists.intro
        apply And.intro
        · rfl
        apply hid
        apply RnW.mk
        · exact K4.out _ _ _ _
        · omega
        all_goals first | apply al0 | apply al1 | apply al2 | apply al3
    case rest =>
      obtain ⟨g, a, b, d, rfl, hc⟩ := hcut
      have hC := hc.out
      have tt2 := T1.out.call hC.bl
      obtain ⟨z0, z1, z2, z3, z4, z5, z6, z7, z8⟩ := tt2.zs
      have f0 := tt2.zz.free 0
      have f1 := tt2.zz.free 1
      have f2 := tt2.zz.free 2
      have f3 := tt2.zz.free 3
      have f4 := tt2.zz.free 4
      have f5 := tt2.zz.free 5
      have f6 := tt2.zz.free 6
      have f7 := tt2.zz.free 7
      have f8 := tt2.zz.free 8
      obtain ⟨y0, y1, y2, y3, y4, y5, y6, y7, y8⟩ := nine_cells hC.gz
      have hgw := hC.gw
      have hne1 : w.heap.size + 1 ≠ g := by omega
      have hne2 : g ≠ w.heap.size + 1 := by omega
      have HC := hid hC
      have HT2 := hid tt2
      clear hC tt2 hc KS K1 K2 K3 K4 hgw
      go_wp2_with fail
      have HV : Stt.mk ⟨pg, (ns : Int), (nr : Int), m1⟩ 1 0 (List.replicate ns Slt.z) (List.replicate nr Rt.z) (List.replicate ns []) = nwS ⟨pg, (ns : Int), (nr : Int), m1⟩ 1 := by unfold nwS; simp
      obtain ⟨W9, hW9⟩ : ∃ W9, W9 = (((((((((wc.setCell ⟨w.heap.size + 1, 0, none⟩ (.int .i64 pg)).setCell ⟨w.heap.size + 1, 1, none⟩ (.int .i64 (ns : Int))).setCell ⟨w.heap.size + 1, 2, none⟩ (.int .i64 (nr : Int))).setCell ⟨w.heap.size + 1, 3, none⟩ (.int .i64 m1)).setCell ⟨w.heap.size + 1, 4, none⟩ (.int .i64 1)).setCell ⟨w.heap.size + 1, 5, none⟩ (.int .i64 0)).setCell ⟨w.heap.size + 1, 6, none⟩ (.slice (some ⟨a, 0, none⟩) ns ns)).setCell ⟨w.heap.size + 1, 7, none⟩ (.slice (some ⟨b, 0, none⟩) nr nr)).setCell ⟨w.heap.size + 1, 8, none⟩ (.slice (some ⟨d, 0, none⟩) ns ns)) := ⟨_, rfl⟩
      rw [← hW9]
      have hzz : W9.heap[w.heap.size + 1]? = some (.cells #[.int .i64 pg, .int .i64 (ns : Int), .int .i64 (nr : Int), .int .i64 m1, .int .i64 1, .int .i64 0, .slice (some ⟨a, 0, none⟩) ns ns, .slice (some ⟨b, 0, none⟩) nr nr, .slice (some ⟨d, 0, none⟩) ns ns] 28 (0, 0)) := by rw [hW9]; exact nine_heap _ _ _ _ _ _ _ _ _ HT2.out.zz
      have hoff : Off (fun j => j = w.heap.size + 1) wc W9 := by rw [hW9]; exact nine_off wc (w.heap.size + 1) _ _ _ _ _ _ _ _ _
      clear hW9
      obtain ⟨x0, x1, x2, x3, x4, x5, x6, x7, x8⟩ := nine_cells hzz
      clear z0 z1 z2 z3 z4 z5 z6 z7 z8 y0 y1 y2 y3 y4 y5 y6 y7 y8
      refine bodyPost_ret (v := .tuple #[.agg #[.int .i64 pg, .int .i64 (ns : Int), .int .i64 (nr : Int), .int .i64 m1, .int .i64 1, .int .i64 0, .slice (some ⟨a, 0, none⟩) ns ns, .slice (some ⟨b, 0, none⟩) nr nr, .slice (some ⟨d, 0, none⟩) ns ns], .int .i64 0]) (by simp [results, Tryz.results24, go_sem, x0, x1, x2, x3, x4, x5, x6, x7, x8]) rfl ?_
      rw [← HV]
      have hz := HT2.out.zz
      have ha := HC.out.ha
      have hb := HC.out.hb
      have hd := HC.out.hd
      have na : a ≠ w.heap.size + 1 := fun e => by rw [e] at ha; have := hz.symm.trans ha; simp at this
      have nb : b ≠ w.heap.size + 1 := fun e => by rw [e] at hb; have := hz.symm.trans hb; simp at this
      have nd : d ≠ w.heap.size + 1 := fun e => by rw [e] at hd; have := hz.symm.trans hd; simp at this
      have ha9 := (hoff.block a (Array.getElem?_eq_some_iff.1 ha).1 na).trans ha
      have hb9 := (hoff.block b (Array.getElem?_eq_some_iff.1 hb).1 nb).trans hb
      have hd9 := (hoff.block d (Array.getElem?_eq_some_iff.1 hd).1 nd).trans hd
      rw [← List.toArray_replicate] at hd9
      exact ⟨⟨some ⟨a, 0, none⟩, ns, ns, some ⟨b, 0, none⟩, nr, nr, some ⟨d, 0, none⟩, ns, ns, fun _ => none, fun _ => 0, fun _ => 0⟩, rfl, ⟨tb_made ha9, rs_made hb9, rd_nils hd9 (show ns ≤ 1000000 by omega), HGS.out, gm, show Rg (0 : Int) from ⟨by decide, by decide⟩⟩, HT2.out.bl.trans (hoff.below (fun j hj => by omega) HT2.out.bl.size)⟩
  · go_upto_region 4 with fail
    go_cut [7] (fun c wx => ∃ g a b d : Nat, c = .pointer (some ⟨g, 0, none⟩) ∧ Hid (RnW w1 wx pg m1 2 ns nr g a b d))
    case first =>
      go_region_held3 (fun w' => w'.cell? ⟨w.heap.size, 0, none⟩ = some (.int .i64 pg) ∧ w'.cell? ⟨w.heap.size, 1, none⟩ = some (.int .i64 (ns : Int)) ∧ w'.cell? ⟨w.heap.size, 2, none⟩ = some (.int .i64 (nr : Int)) ∧ w'.cell? ⟨w.heap.size, 3, none⟩ = some (.int .i64 m1)) (first | exact KS.out _ (K1.out _) | exact KS.out _ (K2.out _ _) | exact KS.out _ (K3.out _ _ _) | exact KS.out _ (K4.out _ _ _ _) | go_keep) (fail)
      all_goals as_aux_lemma =>
        go_wp2_with fail
        go_meet
        apply Exists.intro
        apply Exists.intro
        apply Exists.intro
        apply Exists.intro
        apply And.intro
        · rfl
        apply hid
        apply RnW.mk
        · exact K4.out _ _ _ _
        · omega
        all_goals first | apply al0 | apply al1 | apply al2 | apply al3
    case rest =>
      obtain ⟨g, a, b, d, rfl, hc⟩ := hcut
      have hC := hc.out
      have tt2 := T1.out.call hC.bl
      obtain ⟨z0, z1, z2, z3, z4, z5, z6, z7, z8⟩ := tt2.zs
      have f0 := tt2.zz.free 0
      have f1 := tt2.zz.free 1
      have f2 := tt2.zz.free 2
      have f3 := tt2.zz.free 3
      have f4 := tt2.zz.free 4
      have f5 := tt2.zz.free 5
      have f6 := tt2.zz.free 6
      have f7 := tt2.zz.free 7
      have f8 := tt2.zz.free 8
      obtain ⟨y0, y1, y2, y3, y4, y5, y6, y7, y8⟩ := nine_cells hC.gz
      have hgw := hC.gw
      have hne1 : w.heap.size + 1 ≠ g := by omega
      have hne2 : g ≠ w.heap.size + 1 := by omega
      have HC := hid hC
      have HT2 := hid tt2
      have hbx : BxT wc g ⟨some ⟨a, 0, none⟩, ns, ns, some ⟨b, 0, none⟩, nr, nr, some ⟨d, 0, none⟩, ns, ns, fun _ => none, fun _ => 0, fun _ => 0⟩ ⟨⟨pg, (ns : Int), (nr : Int), m1⟩, 2, 0, [], [], []⟩ := hC.gz
      have fg := hbx.free 5
      clear q0 q1 q2 q3
      obtain ⟨q0, q1, q2, q3⟩ := tt2.bx.cells
      simp only at q0 q1 q2 q3
      have hHB := hid hbx
      clear hbx
      clear hC tt2 hc KS K1 K2 K3 K4 hgw
      go_wp2_with fail
      have HV : Stt.mk ⟨pg, (ns : Int), (nr : Int), m1⟩ 2 pg (List.replicate ns Slt.z) (List.replicate nr Rt.z) (List.replicate ns []) = nwS ⟨pg, (ns : Int), (nr : Int), m1⟩ 2 := by unfold nwS; simp
      obtain ⟨W9, hW9⟩ : ∃ W9, W9 = ((((((((((wc.setCell ⟨g, 5, none⟩ (.int .i64 pg)).setCell ⟨w.heap.size + 1, 0, none⟩ (.int .i64 pg)).setCell ⟨w.heap.size + 1, 1, none⟩ (.int .i64 (ns : Int))).setCell ⟨w.heap.size + 1, 2, none⟩ (.int .i64 (nr : Int))).setCell ⟨w.heap.size + 1, 3, none⟩ (.int .i64 m1)).setCell ⟨w.heap.size + 1, 4, none⟩ (.int .i64 2)).setCell ⟨w.heap.size + 1, 5, none⟩ (.int .i64 pg)).setCell ⟨w.heap.size + 1, 6, none⟩ (.slice (some ⟨a, 0, none⟩) ns ns)).setCell ⟨w.heap.size + 1, 7, none⟩ (.slice (some ⟨b, 0, none⟩) nr nr)).setCell ⟨w.heap.size + 1, 8, none⟩ (.slice (some ⟨d, 0, none⟩) ns ns)) := ⟨_, rfl⟩
      rw [← hW9]
      have hzz : W9.heap[w.heap.size + 1]? = some (.cells #[.int .i64 pg, .int .i64 (ns : Int), .int .i64 (nr : Int), .int .i64 m1, .int .i64 2, .int .i64 pg, .slice (some ⟨a, 0, none⟩) ns ns, .slice (some ⟨b, 0, none⟩) nr nr, .slice (some ⟨d, 0, none⟩) ns ns] 28 (0, 0)) := by rw [hW9]; exact nine_heap _ _ _ _ _ _ _ _ _ ((heap_setCell_other wc ⟨g, 5, none⟩ (w.heap.size + 1) (.int .i64 pg) hne1).trans HT2.out.zz)
      have hoff0 : Off (fun j => j = w.heap.size + 1) (wc.setCell ⟨g, 5, none⟩ (.int .i64 pg)) W9 := by rw [hW9]; exact nine_off (wc.setCell ⟨g, 5, none⟩ (.int .i64 pg)) (w.heap.size + 1) _ _ _ _ _ _ _ _ _
      have hoff : Off (fun j => j = w.heap.size + 1 ∨ j = g) wc W9 := ((Off.refl (fun j => j = w.heap.size + 1 ∨ j = g) wc).setCell ⟨g, 5, none⟩ (.int .i64 pg) (Or.inr rfl)).trans hoff0 (fun j hj => Or.inl (Or.inl hj))
      clear hW9
      obtain ⟨x0, x1, x2, x3, x4, x5, x6, x7, x8⟩ := nine_cells hzz
      clear z0 z1 z2 z3 z4 z5 z6 z7 z8 y0 y1 y2 y3 y4 y5 y6 y7 y8
      refine bodyPost_ret (v := .tuple #[.agg #[.int .i64 pg, .int .i64 (ns : Int), .int .i64 (nr : Int), .int .i64 m1, .int .i64 2, .int .i64 pg, .slice (some ⟨a, 0, none⟩) ns ns, .slice (some ⟨b, 0, none⟩) nr nr, .slice (some ⟨d, 0, none⟩) ns ns], .int .i64 0]) (by simp [results, Tryz.results24, go_sem, x0, x1, x2, x3, x4, x5, x6, x7, x8]) rfl ?_
      rw [← HV]
      have hz := HT2.out.zz
      have hgz := HC.out.gz
      have hgw2 := HC.out.gw
      have ha := HC.out.ha
      have hb := HC.out.hb
      have hd := HC.out.hd
      have na : ¬ (a = w.heap.size + 1 ∨ a = g) := by
        rintro (e | e)
        · rw [e] at ha; have := hz.symm.trans ha; simp at this
        · rw [e] at ha; have := hgz.symm.trans ha; simp at this
      have nb : ¬ (b = w.heap.size + 1 ∨ b = g) := by
        rintro (e | e)
        · rw [e] at hb; have := hz.symm.trans hb; simp at this
        · rw [e] at hb; have := hgz.symm.trans hb; simp at this
      have nd : ¬ (d = w.heap.size + 1 ∨ d = g) := by
        rintro (e | e)
        · rw [e] at hd; have := hz.symm.trans hd; simp at this
        · rw [e] at hd; have := hgz.symm.trans hd; simp at this
      have ha9 := (hoff.block a (Array.getElem?_eq_some_iff.1 ha).1 na).trans ha
      have hb9 := (hoff.block b (Array.getElem?_eq_some_iff.1 hb).1 nb).trans hb
      have hd9 := (hoff.block d (Array.getElem?_eq_some_iff.1 hd).1 nd).trans hd
      rw [← List.toArray_replicate] at hd9
      exact ⟨⟨some ⟨a, 0, none⟩, ns, ns, some ⟨b, 0, none⟩, nr, nr, some ⟨d, 0, none⟩, ns, ns, fun _ => none, fun _ => 0, fun _ => 0⟩, rfl, ⟨tb_made ha9, rs_made hb9, rd_nils hd9 (show ns ≤ 1000000 by omega), HGS.out, gm, HGS.out.gp⟩, HT2.out.bl.trans (hoff.below (fun j hj => by rcases hj with rfl | rfl <;> omega) HT2.out.bl.size)⟩
theorem rnewS_any (s : Shp) (gs : ShG s) (m : Int) (gm : Rg m) (w : World) :
    Calls Tryz.prog 24 #[.agg #[.int .i64 s.pg, .int .i64 s.sl, .int .i64 s.rt, .int .i64 s.rm], .int .i64 m] w fun e w' => ∃ v, e = .returned (.tuple #[.agg (stC v (neS s m)), .int .i64 (neE s m)]) ∧ Sta w' v (neS s m) ∧ Below w.heap.size w w' := by
  by_cases hok : NwOk s m
  · exact rnewSt_ok s gs m gm w hok.2 hok
  · have hT := nwT_start w s
    have HT := hid hT
    obtain ⟨q0, q1, q2, q3⟩ := hT.bx.cells
    have cR := fun w' => rrightS_any s.pg s.sl s.rt s.rm w'
    obtain ⟨n1, n2⟩ := ne_f hok
    rw [n1, n2]
    by_cases hsh : ShR s
    · have hsb : shB ⟨s.pg, s.sl, s.rt, s.rm⟩ = true := decide_eq_true hsh
      rw [hsb] at cR
      have hm1 : ¬ m = 1 := fun h => hok ⟨hsh, Or.inl h⟩
      have hm2 : ¬ m = 2 := fun h => hok ⟨hsh, Or.inr h⟩
      have hd1 : (m != 1) = true := by simpa using hm1
      have hd2 : (m != 2) = true := by simpa using hm2
      clear hsb hsh
      obtain ⟨pg, s1, r1, m1⟩ := s
      simp only [stC, zStV, zSt] at *
      clear hT n1 n2 gs hok
      go_enter Tryz.func24, Tryz.ntmps24
      go_wp2_with fail
      generalize ((w.alloc (.cells #[.int .i64 pg, .int .i64 s1, .int .i64 r1, .int .i64 m1] 23)).alloc (.cells #[.int .i64 0, .int .i64 0, .int .i64 0, .int .i64 0, .int .i64 0, .int .i64 0, .slice none 0 0, .slice none 0 0, .slice none 0 0] 28)) = W0 at *
      refine (cR _).mono ?_
      rintro e w1 ⟨rfl, hb1⟩
      have tt := HT.out.call hb1
      have TT := hid tt
      obtain ⟨z0, z1, z2, z3, z4, z5, z6, z7, z8⟩ := tt.zs
      have f0 := tt.zz.free 0
      have f1 := tt.zz.free 1
      have f2 := tt.zz.free 2
      have f3 := tt.zz.free 3
      have f4 := tt.zz.free 4
      have f5 := tt.zz.free 5
      have f6 := tt.zz.free 6
      have f7 := tt.zz.free 7
      have f8 := tt.zz.free 8
      obtain ⟨q0, q1, q2, q3⟩ := tt.bx.cells
      simp only at q0 q1 q2 q3
      clear tt hb1
      go_wp2
      refine bodyPost_ret (v := .tuple #[.agg (stC zStV zSt), .int .i64 1]) (by simp [results, Tryz.results24, go_sem, z0, z1, z2, z3, z4, z5, z6, z7, z8, stC, zStV, zSt]) rfl ⟨zStV, rfl, sta_z _, ?_⟩
      exact TT.out.bl.trans ((nine_off w1 (w.heap.size + 1) (.int .i64 0) (.int .i64 0) (.int .i64 0) (.int .i64 0) (.int .i64 0) (.int .i64 0) (.slice none 0 0) (.slice none 0 0) (.slice none 0 0)).below (fun j hj => by omega) TT.out.bl.size)
    · have hsb : shB ⟨s.pg, s.sl, s.rt, s.rm⟩ = false := decide_eq_false hsh
      rw [hsb] at cR
      clear hsb hsh
      obtain ⟨pg, s1, r1, m1⟩ := s
      simp only [stC, zStV, zSt] at *
      clear hT n1 n2 gs hok
      go_enter Tryz.func24, Tryz.ntmps24
      go_wp2_with fail
      generalize ((w.alloc (.cells #[.int .i64 pg, .int .i64 s1, .int .i64 r1, .int .i64 m1] 23)).alloc (.cells #[.int .i64 0, .int .i64 0, .int .i64 0, .int .i64 0, .int .i64 0, .int .i64 0, .slice none 0 0, .slice none 0 0, .slice none 0 0] 28)) = W0 at *
      refine (cR _).mono ?_
      rintro e w1 ⟨rfl, hb1⟩
      have tt := HT.out.call hb1
      have TT := hid tt
      obtain ⟨z0, z1, z2, z3, z4, z5, z6, z7, z8⟩ := tt.zs
      have f0 := tt.zz.free 0
      have f1 := tt.zz.free 1
      have f2 := tt.zz.free 2
      have f3 := tt.zz.free 3
      have f4 := tt.zz.free 4
      have f5 := tt.zz.free 5
      have f6 := tt.zz.free 6
      have f7 := tt.zz.free 7
      have f8 := tt.zz.free 8
      obtain ⟨q0, q1, q2, q3⟩ := tt.bx.cells
      simp only at q0 q1 q2 q3
      clear tt hb1
      go_wp2
      refine bodyPost_ret (v := .tuple #[.agg (stC zStV zSt), .int .i64 1]) (by simp [results, Tryz.results24, go_sem, z0, z1, z2, z3, z4, z5, z6, z7, z8, stC, zStV, zSt]) rfl ⟨zStV, rfl, sta_z _, ?_⟩
      exact TT.out.bl.trans ((nine_off w1 (w.heap.size + 1) (.int .i64 0) (.int .i64 0) (.int .i64 0) (.int .i64 0) (.int .i64 0) (.int .i64 0) (.slice none 0 0) (.slice none 0 0) (.slice none 0 0)).below (fun j hj => by omega) TT.out.bl.size)
end Go.Proofs.YtpbljjbhfhfmgaaGreatDoor
