/- 'SuperCodes' walked. (tools/gen_supercodes.py writes it.) -/
import Derived.Test.YtfglbhdfdpnnfaaDoorMuB
import Derived.Test.YtfglbhdfdpnnfaaDoorRowsL
import Derived.Deep.RegionHeld3
namespace Go.Proofs.YtfglbhdfdpnnfaaDoor
set_option maxRecDepth 100000
open Go.RowKit
set_option linter.unusedVariables false
set_option linter.unusedSimpArgs false
set_option maxRecDepth 100000

theorem BxS4.drew {w : World} {b : Nat} {s : Shp} (h : BxS4 w b s) : BxS4 w.drew b s := h
theorem BxS4.off {F : Nat → Prop} {w w' : World} {b : Nat} {s : Shp} (h : BxS4 w b s) (ho : Off F w w') (hn : ¬ F b) : BxS4 w' b s := (ho.block b h.lt hn).trans h
/-- Where all stands once the rows have been written over. -/
theorem codes_off (w w1 w2 w3 w4 w5 w6 w7 : World) (s t : Shp) (o : Obj) (xo : Option Addr) (M xc n : Nat) (ZZ : List Int)
    (hb1 : Below (w.alloc (.cells #[.int .i64 s.pg, .int .i64 s.sl, .int .i64 s.rt, .int .i64 s.rm] 23)).heap.size (w.alloc (.cells #[.int .i64 s.pg, .int .i64 s.sl, .int .i64 s.rt, .int .i64 s.rm] 23)) w1) (hb2 : Below w1.heap.size w1 w2) (hX : Own .u8 5 w2.heap.size w3 xo M xc ZZ) (hb3 : Below w2.heap.size w2 w3) (hb4 : Below w3.heap.size w3 w4)
    (hb5 : Below (w4.alloc (.cells #[.int .i64 t.pg, .int .i64 t.sl, .int .i64 t.rt, .int .i64 t.rm] 23)).heap.size (w4.alloc (.cells #[.int .i64 t.pg, .int .i64 t.sl, .int .i64 t.rt, .int .i64 t.rm] 23)) w5) (hb6 : Below w5.heap.size w5 w6) (hl : w1.heap.size < w2.heap.size)
    (ho : Off (fun k => k = blk xo ∧ 0 < xc ∨ k = w1.heap.size ∧ 0 < n + 1) ((w6.alloc (.cells #[.int .i64 t.pg, .int .i64 t.sl, .int .i64 t.rt, .int .i64 t.rm] 23)).alloc o) w7) :
    Below w.heap.size w w7 ∧ BxS4 w7 w.heap.size s ∧ BxS4 w7 w4.heap.size t ∧ BxS4 w7 w6.heap.size t := by
  have hb0 : Below w.heap.size w (w.alloc (.cells #[.int .i64 s.pg, .int .i64 s.sl, .int .i64 s.rt, .int .i64 s.rm] 23)) := (Below.refl _ _).alloc (Nat.le_refl _) _
  have e0 : (w.alloc (.cells #[.int .i64 s.pg, .int .i64 s.sl, .int .i64 s.rt, .int .i64 s.rm] 23)).heap.size = w.heap.size + 1 := by simp
  have e4 : (w4.alloc (.cells #[.int .i64 t.pg, .int .i64 t.sl, .int .i64 t.rt, .int .i64 t.rm] 23)).heap.size = w4.heap.size + 1 := by simp
  have l1 := hb1.size
  have l2 := hb2.size
  have l3 := hb3.size
  have l4 := hb4.size
  have l5 := hb5.size
  have l6 := hb6.size
  have hA4 : Below w4.heap.size w4 (w4.alloc (.cells #[.int .i64 t.pg, .int .i64 t.sl, .int .i64 t.rt, .int .i64 t.rm] 23)) := (Below.refl _ _).alloc (Nat.le_refl _) _
  have hA6 : Below w6.heap.size w6 (w6.alloc (.cells #[.int .i64 t.pg, .int .i64 t.sl, .int .i64 t.rt, .int .i64 t.rm] 23)) := (Below.refl _ _).alloc (Nat.le_refl _) _
  have hA7 : Below (w6.alloc (.cells #[.int .i64 t.pg, .int .i64 t.sl, .int .i64 t.rt, .int .i64 t.rm] 23)).heap.size (w6.alloc (.cells #[.int .i64 t.pg, .int .i64 t.sl, .int .i64 t.rt, .int .i64 t.rm] 23)) ((w6.alloc (.cells #[.int .i64 t.pg, .int .i64 t.sl, .int .i64 t.rt, .int .i64 t.rm] 23)).alloc o) := (Below.refl _ _).alloc (Nat.le_refl _) _
  have rx := hX.rowb
  have hF : ∀ j, (j = blk xo ∧ 0 < xc ∨ j = w1.heap.size ∧ 0 < n + 1) → w1.heap.size ≤ j ∧ j < w3.heap.size := by
    rintro j (⟨rfl, hc⟩ | ⟨rfl, _⟩)
    · have h3 := rx.spot hc
      exact ⟨Nat.le_trans l2 h3.2.1, h3.2.2⟩
    · exact ⟨Nat.le_refl _, by omega⟩
  have k0 : Below (w.alloc (.cells #[.int .i64 s.pg, .int .i64 s.sl, .int .i64 s.rt, .int .i64 s.rm] 23)).heap.size (w.alloc (.cells #[.int .i64 s.pg, .int .i64 s.sl, .int .i64 s.rt, .int .i64 s.rm] 23)) ((w6.alloc (.cells #[.int .i64 t.pg, .int .i64 t.sl, .int .i64 t.rt, .int .i64 t.rm] 23)).alloc o) := next (next (next (next (next (next (next (next hb1 hb2) hb3) hb4) hA4) hb5) hb6) hA6) hA7
  have s4 : BxS4 ((w6.alloc (.cells #[.int .i64 t.pg, .int .i64 t.sl, .int .i64 t.rt, .int .i64 t.rm] 23)).alloc o) w4.heap.size t := ((((bxS4_new w4 t).kept hb5).kept hb6).kept hA6).kept hA7
  have s6 : BxS4 ((w6.alloc (.cells #[.int .i64 t.pg, .int .i64 t.sl, .int .i64 t.rt, .int .i64 t.rm] 23)).alloc o) w6.heap.size t := (bxS4_new w6 t).kept hA7
  have s0 : BxS4 ((w6.alloc (.cells #[.int .i64 t.pg, .int .i64 t.sl, .int .i64 t.rt, .int .i64 t.rm] 23)).alloc o) w.heap.size s := (bxS4_new w s).kept k0
  refine ⟨(next hb0 k0).trans (ho.below (B := w.heap.size) (fun j hj => ?_) (next hb0 k0).size), s0.off ho (fun hf => ?_), s4.off ho (fun hf => ?_), s6.off ho (fun hf => ?_)⟩
  · have := (hF j hj).1
    omega
  · have := (hF _ hf).1
    omega
  · have := (hF _ hf).2
    omega
  · have := (hF _ hf).2
    omega
set_option maxHeartbeats 4000000 in
theorem superCodes_walk (w : World) (T : Nms w) (s : Shp) (hs : ShG s) (m : Int) (hm : (Lit.int .i64 m).wf = true) (b : Int) (hb : (Lit.int .i64 b).wf = true) (ao : Option Addr) (n cap : Nat) (zs : List Int) (h : Sl .u8 w ao n cap zs) (hwf : ∀ z ∈ zs, (Lit.int .u8 z).wf = true) (hr : cap * 1 ≤ 140737488351232) (x : ByteArray) (hx : x.size ≤ maxLen) :
    Calls Tryd.prog 3 #[.agg #[.int .i64 s.pg, .int .i64 s.sl, .int .i64 s.rt, .int .i64 s.rm], .int .i64 m, .int .i64 b, .slice ao n cap, .string x] w fun e w' => e = .returned (.bool true) ∧ Below w.heap.size w w' := by
  have hM : Rg m := bounds_i64 hm
  have hB : Rg b := bounds_i64 hb
  have hby : Bytes zs := bytes_wf hwf
  have hl0 := h.len
  have n0 : n ≤ 140737488355328 := by have := h.room; omega
  have hb0 : Below w.heap.size w (w.alloc (.cells #[.int .i64 s.pg, .int .i64 s.sl, .int .i64 s.rt, .int .i64 s.rm] 23)) := (Below.refl _ _).alloc (Nat.le_refl _) _
  have cS := smallU_any (w.alloc (.cells #[.int .i64 s.pg, .int .i64 s.sl, .int .i64 s.rt, .int .i64 s.rm] 23)) (T.kept hb0)
  have p00 := h.below hb0
  have HAl : ∀ (w1 : World) (o : Obj), Below w1.heap.size w1 (w1.alloc o) := fun w1 o => (Below.refl _ _).alloc (Nat.le_refl _) _
  have HSz : ∀ (w1 : World) (o : Obj), (w1.alloc o).heap.size = w1.heap.size + 1 := fun w1 o => by simp
  obtain ⟨M, hMl⟩ : ∃ M, (sbL s m b).length = M := ⟨_, rfl⟩
  have c1 : ∀ w1, Calls Tryd.prog 8 #[.agg #[.int .i64 s.pg, .int .i64 s.sl, .int .i64 s.rt, .int .i64 s.rm], .int .i64 m, .int .i64 b] w1 fun e w' => ∃ xo xc, e = .returned (.tuple #[.slice xo M xc, .int .i64 (spE s m b)]) ∧ Own .u8 5 w1.heap.size w' xo M xc (sbL s m b) ∧ Below w1.heap.size w1 w' := fun w1 => (suWrite_any s hs m b hM hB w1).mono fun e w2 ⟨a, k, c, h2, h3, h4⟩ => by
    obtain rfl : k = M := by rw [← h3.len, hMl]
    exact ⟨a, c, h2, h3, h4⟩
  have c2 : ∀ w1, Calls Tryd.prog 11 #[.agg #[.int .i64 s.pg, .int .i64 s.sl, .int .i64 s.rt, .int .i64 s.rm], .int .i64 m, .int .i64 b] w1 fun e w' => ∃ xo xc, e = .returned (.tuple #[.slice xo M xc, .int .i64 (spE s m b)]) ∧ Own .u8 5 w1.heap.size w' xo M xc (sbL s m b) ∧ Below w1.heap.size w1 w' := fun w1 => (rhWrite_any s m b w1).mono fun e w2 ⟨a, k, c, h2, h3, h4⟩ => by
    obtain rfl : k = M := by rw [← h3.len, hMl]
    exact ⟨a, c, h2, h3, h4⟩
  have c3 := fun (w1 : World) (g : Nat) (hS : Sl .u8 w1 (some ⟨g, 0, none⟩) n (n + 1) zs) => suRead_any (some ⟨g, 0, none⟩) n (n + 1) zs w1 hS hby n0
  have c4 := fun (w1 : World) (hS : Sl .u8 w1 ao n cap zs) => rhRead_any ao n cap zs w1 hS hby n0
  have c5 := fun (w1 : World) (T1 : Nms w1) => suMode_any x w1 T1
  have c6 := fun (w1 : World) => rhMode_any x w1
  have c7 := fun (w1 : World) (T1 : Nms w1) => suName_any m w1 T1
  have c8 : ∀ w1, Calls Tryd.prog 17 #[.int .i64 m] w1 fun e w' => e = .returned (.string (nmT m)) ∧ Below w1.heap.size w1 w' := fun w1 => (rhName_any m w1).mono fun e w2 ⟨a, b⟩ => ⟨a, by subst b; exact Below.refl _ _⟩
  have c9 := fun (w1 : World) => suRight_any s hs m b hM hB w1
  have ca := fun (w1 : World) => rhRight_any s m b w1
  have HO := hid (codes_off w)
  generalize sbL s m b = ZZ at *
  generalize spE s m b = E at *
  generalize rhS zs = t at *
  generalize rhM zs = m2 at *
  generalize rhN zs = b2 at *
  generalize rhB zs = B2 at *
  generalize mdN x.data.toList = i at *
  generalize mdB x.data.toList = B3 at *
  generalize nmT m = Z at *
  generalize hpB s m b = B4 at *
  clear hs hM hB hm hb hwf hr hx hMl
  go_enter Tryd.func3, Tryd.ntmps3
  go_wp2_with (first
    | (go_at_call 6; with_reducible refine cS.mono ?_; rintro e w1 ⟨rfl, hb1⟩; have p0 := p00.below hb1; have hs1 := (bxS4_new w s).kept hb1)
    | (go_at_call 7; with_reducible refine (lent_any _ _ _ zs _ p0 n0).mono ?_; rintro e w2 ⟨rfl, hx2, hb2⟩; have q0 := p0.below hb2; have hl12 := hx2.lt; have hs2 := hs1.kept hb2; obtain ⟨z0, z1, z2, z3⟩ := hs2.cells)
    | (go_at_call 8; with_reducible refine (c1 w2).mono ?_; rintro e w3 ⟨xo, xc, rfl, hX, hb3⟩; have hx3 := hx2.below hb3; have r0 := q0.below hb3; have sl3 := hx3.sl hl0; have hs3 := hs2.kept hb3)
    | (go_at_call 9; with_reducible refine (c3 _ _ sl3).mono ?_; rintro e w4 ⟨rfl, hb4⟩; have hx4 := (hx3.below hb4).below (HAl w4 (.cells #[.int .i64 t.pg, .int .i64 t.sl, .int .i64 t.rt, .int .i64 t.rm] 23)); have v0 := (r0.below hb4).below (HAl w4 (.cells #[.int .i64 t.pg, .int .i64 t.sl, .int .i64 t.rt, .int .i64 t.rm] 23)); have hX4 := (hX.below hb4).below (HAl w4 (.cells #[.int .i64 t.pg, .int .i64 t.sl, .int .i64 t.rt, .int .i64 t.rm] 23)); have hs4 := (hs3.kept hb4).kept (HAl w4 (.cells #[.int .i64 t.pg, .int .i64 t.sl, .int .i64 t.rt, .int .i64 t.rm] 23)); obtain ⟨z0, z1, z2, z3⟩ := hs4.cells)
    | (go_at_call 10; with_reducible refine (kept_any _ _ _ _ zs _ hx4 v0 n0).mono ?_; rintro e w' ⟨rfl, rfl⟩)
    | (go_at_call 11; with_reducible refine (c2 (w4.alloc (.cells #[.int .i64 t.pg, .int .i64 t.sl, .int .i64 t.rt, .int .i64 t.rm] 23))).mono ?_; rintro e w5 ⟨yo, yc, rfl, hY, hb5⟩; have hx5 := hx4.below hb5; have u0 := v0.below hb5; have hX5 := hX4.below hb5)
    | (go_at_call 12; with_reducible refine (c4 _ u0).mono ?_; rintro e w6 ⟨rfl, hb6⟩; have hx6 := (hx5.below hb6).below (HAl w6 (.cells #[.int .i64 t.pg, .int .i64 t.sl, .int .i64 t.rt, .int .i64 t.rm] 23)); have hX6 := (hX5.below hb6).below (HAl w6 (.cells #[.int .i64 t.pg, .int .i64 t.sl, .int .i64 t.rt, .int .i64 t.rm] 23)); have hY6 := (hY.below hb6).below (HAl w6 (.cells #[.int .i64 t.pg, .int .i64 t.sl, .int .i64 t.rt, .int .i64 t.rm] 23));
       have tx := hX6.sl.text (P := Tryd.prog) Tryd.underlying24 Tryd.underlying5 Tryd.underlying9; have ty := hY6.sl.text (P := Tryd.prog) Tryd.underlying24 Tryd.underlying5 Tryd.underlying9;
       have rx := hX6.rowb;
       have cO := owned_two (B := w1.heap.size) (rx.mono hb2.size) (hx6.rowd hl0 n0) (fun hc _ e => (by have h3 := (rx.spot hc).2.1; rw [e] at h3; omega)); rw [HSz w6] at cO)
    | (go_at_call 13; with_reducible refine cO.mono ?_; rintro e w7 ⟨rfl, ho⟩; obtain ⟨hb7, hA0, hA4, hA6⟩ := HO.out _ _ _ _ _ _ _ s t _ _ _ _ _ _ hb1 hb2 hX hb3 hb4 hb5 hb6 hl12 ho)
    | (go_at_call 14; with_reducible refine (c5 w7 (T.kept hb7)).mono ?_; rintro e w8 ⟨rfl, hb8⟩)
    | (go_at_call 15; with_reducible refine (c6 w8).mono ?_; rintro e w9 ⟨rfl, rfl⟩))
  have hS := hA0.kept hb8
  have hA := hA4.kept hb8
  have hB := hA6.kept hb8
  have k8 := next hb7 hb8
  have T8 := (T.kept k8).kept (Below.refl w8.heap.size w8).drew
  clear HO cS c1 c2 c3 c4 c5 c6 cO tx ty rx hX hX4 hX5 hX6 hY hY6 hx2 hx3 hx4 hx5 hx6 hA0 hA4 hA6 hs1 hs2 hs3 hs4 hb1 hb2 hb3 hb4 hb5 hb6 hb7 ho p0 p00 q0 r0 v0 u0 sl3 hl12 z0 z1 z2 z3 h hby hb0 HAl HSz
  refine wp_region_held_drew (S := fun w' => BxS4 w' w.heap.size s ∧ BxS4 w' w4.heap.size t ∧ BxS4 w' w6.heap.size t) (by kernel_rfl) ⟨hS, hA, hB⟩ (fun hH => ?_)
  refine wpAnyH_take (i := 0) (v := ?_) (List.getElem?_toArray.trans rfl) (by kernel_rfl) (by kernel_rfl) (by kernel_rfl) (fun _ _ _ h => h) (Or.inl ⟨by rfl, ?_⟩) (by assumption) ?_
  rotate_left
  · (intro w hSw; obtain ⟨s1, s2, s3⟩ := hSw; obtain ⟨q0, q1, q2, q3⟩ := s1.cells; obtain ⟨c0, c1, c2, c3⟩ := s2.cells; obtain ⟨d0, d1, d2, d3⟩ := s3.cells; go_simp; try (with_reducible rfl))
  simp only [Act.put, List.setIfInBounds_toArray, List.set_cons_zero, List.set_cons_succ]
  refine wpAnyH_take (i := 1) (v := ?_) (List.getElem?_toArray.trans rfl) (by kernel_rfl) (by kernel_rfl) (by kernel_rfl) (fun _ _ _ h => h) (Or.inl ⟨by rfl, ?_⟩) (by assumption) ?_
  rotate_left
  · (intro w hSw; obtain ⟨s1, s2, s3⟩ := hSw; obtain ⟨q0, q1, q2, q3⟩ := s1.cells; obtain ⟨c0, c1, c2, c3⟩ := s2.cells; obtain ⟨d0, d1, d2, d3⟩ := s3.cells; go_simp; try (with_reducible rfl))
  simp only [Act.put, List.setIfInBounds_toArray, List.set_cons_zero, List.set_cons_succ]
  refine wpAnyH_take (i := 2) (v := ?_) (List.getElem?_toArray.trans rfl) (by kernel_rfl) (by kernel_rfl) (by kernel_rfl) (fun _ _ _ h => h) (Or.inl ⟨by rfl, ?_⟩) (by assumption) ?_
  rotate_left
  · (intro w hSw; obtain ⟨s1, s2, s3⟩ := hSw; obtain ⟨q0, q1, q2, q3⟩ := s1.cells; obtain ⟨c0, c1, c2, c3⟩ := s2.cells; obtain ⟨d0, d1, d2, d3⟩ := s3.cells; go_simp; try (with_reducible rfl))
  simp only [Act.put, List.setIfInBounds_toArray, List.set_cons_zero, List.set_cons_succ]
  refine wpAnyH_take (i := 3) (v := ?_) (List.getElem?_toArray.trans rfl) (by kernel_rfl) (by kernel_rfl) (by kernel_rfl) (fun _ _ _ h => h) (Or.inl ⟨by rfl, ?_⟩) (by assumption) ?_
  rotate_left
  · (intro w hSw; obtain ⟨s1, s2, s3⟩ := hSw; obtain ⟨q0, q1, q2, q3⟩ := s1.cells; obtain ⟨c0, c1, c2, c3⟩ := s2.cells; obtain ⟨d0, d1, d2, d3⟩ := s3.cells; go_simp; try (with_reducible rfl))
  simp only [Act.put, List.setIfInBounds_toArray, List.set_cons_zero, List.set_cons_succ]
  refine wpAnyH_take (i := 4) (v := ?_) (List.getElem?_toArray.trans rfl) (by kernel_rfl) (by kernel_rfl) (by kernel_rfl) (fun _ _ _ h => h) (Or.inl ⟨by rfl, ?_⟩) (by assumption) ?_
  rotate_left
  · (intro w hSw; obtain ⟨s1, s2, s3⟩ := hSw; obtain ⟨q0, q1, q2, q3⟩ := s1.cells; obtain ⟨c0, c1, c2, c3⟩ := s2.cells; obtain ⟨d0, d1, d2, d3⟩ := s3.cells; go_simp; try (with_reducible rfl))
  simp only [Act.put, List.setIfInBounds_toArray, List.set_cons_zero, List.set_cons_succ]
  refine wpAnyH_take (i := 5) (v := ?_) (List.getElem?_toArray.trans rfl) (by kernel_rfl) (by kernel_rfl) (by kernel_rfl) (fun _ _ _ h => h) (Or.inl ⟨by rfl, ?_⟩) (by assumption) ?_
  rotate_left
  · (intro w hSw; obtain ⟨s1, s2, s3⟩ := hSw; obtain ⟨q0, q1, q2, q3⟩ := s1.cells; obtain ⟨c0, c1, c2, c3⟩ := s2.cells; obtain ⟨d0, d1, d2, d3⟩ := s3.cells; go_simp; try (with_reducible rfl))
  simp only [Act.put, List.setIfInBounds_toArray, List.set_cons_zero, List.set_cons_succ]
  refine wpAnyH_take (i := 6) (v := ?_) (List.getElem?_toArray.trans rfl) (by kernel_rfl) (by kernel_rfl) (by kernel_rfl) (fun _ _ _ h => h) (Or.inl ⟨by rfl, ?_⟩) (by assumption) ?_
  rotate_left
  · (intro w hSw; obtain ⟨s1, s2, s3⟩ := hSw; obtain ⟨q0, q1, q2, q3⟩ := s1.cells; obtain ⟨c0, c1, c2, c3⟩ := s2.cells; obtain ⟨d0, d1, d2, d3⟩ := s3.cells; go_simp; try (with_reducible rfl))
  simp only [Act.put, List.setIfInBounds_toArray, List.set_cons_zero, List.set_cons_succ]
  refine wpAnyH_take (i := 7) (v := ?_) (List.getElem?_toArray.trans rfl) (by kernel_rfl) (by kernel_rfl) (by kernel_rfl) (fun _ _ _ h => h) (Or.inl ⟨by rfl, ?_⟩) (by assumption) ?_
  rotate_left
  · (intro w hSw; obtain ⟨s1, s2, s3⟩ := hSw; obtain ⟨q0, q1, q2, q3⟩ := s1.cells; obtain ⟨c0, c1, c2, c3⟩ := s2.cells; obtain ⟨d0, d1, d2, d3⟩ := s3.cells; go_simp; try (with_reducible rfl))
  simp only [Act.put, List.setIfInBounds_toArray, List.set_cons_zero, List.set_cons_succ]
  refine wpAnyH_take (i := 8) (v := ?_) (List.getElem?_toArray.trans rfl) (by kernel_rfl) (by kernel_rfl) (by kernel_rfl) (fun _ _ _ h => h) (Or.inl ⟨by rfl, ?_⟩) (by assumption) ?_
  rotate_left
  · (intro w hSw; obtain ⟨s1, s2, s3⟩ := hSw; obtain ⟨q0, q1, q2, q3⟩ := s1.cells; obtain ⟨c0, c1, c2, c3⟩ := s2.cells; obtain ⟨d0, d1, d2, d3⟩ := s3.cells; go_simp; try (with_reducible rfl))
  simp only [Act.put, List.setIfInBounds_toArray, List.set_cons_zero, List.set_cons_succ]
  refine wpAnyH_take (i := 9) (v := ?_) (List.getElem?_toArray.trans rfl) (by kernel_rfl) (by kernel_rfl) (by kernel_rfl) (fun _ _ _ h => h) (Or.inl ⟨by rfl, ?_⟩) (by assumption) ?_
  rotate_left
  · (intro w hSw; obtain ⟨s1, s2, s3⟩ := hSw; obtain ⟨q0, q1, q2, q3⟩ := s1.cells; obtain ⟨c0, c1, c2, c3⟩ := s2.cells; obtain ⟨d0, d1, d2, d3⟩ := s3.cells; go_simp; try (with_reducible rfl))
  simp only [Act.put, List.setIfInBounds_toArray, List.set_cons_zero, List.set_cons_succ]
  refine wpAnyH_take (i := 10) (v := ?_) (List.getElem?_toArray.trans rfl) (by kernel_rfl) (by kernel_rfl) (by kernel_rfl) (fun _ _ _ h => h) (Or.inl ⟨by rfl, ?_⟩) (by assumption) ?_
  rotate_left
  · (intro w hSw; obtain ⟨s1, s2, s3⟩ := hSw; obtain ⟨q0, q1, q2, q3⟩ := s1.cells; obtain ⟨c0, c1, c2, c3⟩ := s2.cells; obtain ⟨d0, d1, d2, d3⟩ := s3.cells; go_simp; try (with_reducible rfl))
  simp only [Act.put, List.setIfInBounds_toArray, List.set_cons_zero, List.set_cons_succ]
  refine wpAnyH_take (i := 11) (v := ?_) (List.getElem?_toArray.trans rfl) (by kernel_rfl) (by kernel_rfl) (by kernel_rfl) (fun _ _ _ h => h) (Or.inl ⟨by rfl, ?_⟩) (by assumption) ?_
  rotate_left
  · (intro w hSw; obtain ⟨s1, s2, s3⟩ := hSw; obtain ⟨q0, q1, q2, q3⟩ := s1.cells; obtain ⟨c0, c1, c2, c3⟩ := s2.cells; obtain ⟨d0, d1, d2, d3⟩ := s3.cells; go_simp; try (with_reducible rfl))
  simp only [Act.put, List.setIfInBounds_toArray, List.set_cons_zero, List.set_cons_succ]
  refine wpAnyH_take (i := 12) (v := ?_) (List.getElem?_toArray.trans rfl) (by kernel_rfl) (by kernel_rfl) (by kernel_rfl) (fun _ _ _ h => h) (Or.inl ⟨by rfl, ?_⟩) (by assumption) ?_
  rotate_left
  · (intro w hSw; obtain ⟨s1, s2, s3⟩ := hSw; obtain ⟨q0, q1, q2, q3⟩ := s1.cells; obtain ⟨c0, c1, c2, c3⟩ := s2.cells; obtain ⟨d0, d1, d2, d3⟩ := s3.cells; go_simp; try (with_reducible rfl))
  simp only [Act.put, List.setIfInBounds_toArray, List.set_cons_zero, List.set_cons_succ]
  refine wpAnyH_take (i := 13) (v := ?_) (List.getElem?_toArray.trans rfl) (by kernel_rfl) (by kernel_rfl) (by kernel_rfl) (fun _ _ _ h => h) (Or.inl ⟨by rfl, ?_⟩) (by assumption) ?_
  rotate_left
  · (intro w hSw; obtain ⟨s1, s2, s3⟩ := hSw; obtain ⟨q0, q1, q2, q3⟩ := s1.cells; obtain ⟨c0, c1, c2, c3⟩ := s2.cells; obtain ⟨d0, d1, d2, d3⟩ := s3.cells; go_simp; try (with_reducible rfl))
  simp only [Act.put, List.setIfInBounds_toArray, List.set_cons_zero, List.set_cons_succ]
  refine wpAnyH_take (i := 14) (v := ?_) (List.getElem?_toArray.trans rfl) (by kernel_rfl) (by kernel_rfl) (by kernel_rfl) (fun _ _ _ h => h) (Or.inl ⟨by rfl, ?_⟩) (by assumption) ?_
  rotate_left
  · (intro w hSw; obtain ⟨s1, s2, s3⟩ := hSw; obtain ⟨q0, q1, q2, q3⟩ := s1.cells; obtain ⟨c0, c1, c2, c3⟩ := s2.cells; obtain ⟨d0, d1, d2, d3⟩ := s3.cells; go_simp; try (with_reducible rfl))
  simp only [Act.put, List.setIfInBounds_toArray, List.set_cons_zero, List.set_cons_succ]
  refine wpAnyH_take (i := 15) (v := ?_) (List.getElem?_toArray.trans rfl) (by kernel_rfl) (by kernel_rfl) (by kernel_rfl) (fun _ _ _ h => h) (Or.inl ⟨by rfl, ?_⟩) (by assumption) ?_
  rotate_left
  · (intro w hSw; obtain ⟨s1, s2, s3⟩ := hSw; obtain ⟨q0, q1, q2, q3⟩ := s1.cells; obtain ⟨c0, c1, c2, c3⟩ := s2.cells; obtain ⟨d0, d1, d2, d3⟩ := s3.cells; go_simp; try (with_reducible rfl))
  simp only [Act.put, List.setIfInBounds_toArray, List.set_cons_zero, List.set_cons_succ]
  refine wpAnyH_take (i := 16) (v := ?_) (List.getElem?_toArray.trans rfl) (by kernel_rfl) (by kernel_rfl) (by kernel_rfl) (fun _ _ _ h => h) (Or.inl ⟨by rfl, ?_⟩) (by assumption) ?_
  rotate_left
  · (intro w hSw; obtain ⟨s1, s2, s3⟩ := hSw; obtain ⟨q0, q1, q2, q3⟩ := s1.cells; obtain ⟨c0, c1, c2, c3⟩ := s2.cells; obtain ⟨d0, d1, d2, d3⟩ := s3.cells; go_simp; try (with_reducible rfl))
  simp only [Act.put, List.setIfInBounds_toArray, List.set_cons_zero, List.set_cons_succ]
  refine wpAnyH_take (i := 17) (v := ?_) (List.getElem?_toArray.trans rfl) (by kernel_rfl) (by kernel_rfl) (by kernel_rfl) (fun _ _ _ h => h) (Or.inl ⟨by rfl, ?_⟩) (by assumption) ?_
  rotate_left
  · (intro w hSw; obtain ⟨s1, s2, s3⟩ := hSw; obtain ⟨q0, q1, q2, q3⟩ := s1.cells; obtain ⟨c0, c1, c2, c3⟩ := s2.cells; obtain ⟨d0, d1, d2, d3⟩ := s3.cells; go_simp; try (with_reducible rfl))
  simp only [Act.put, List.setIfInBounds_toArray, List.set_cons_zero, List.set_cons_succ]
  refine wpAnyH_take (i := 18) (v := ?_) (List.getElem?_toArray.trans rfl) (by kernel_rfl) (by kernel_rfl) (by kernel_rfl) (fun _ _ _ h => h) (Or.inl ⟨by rfl, ?_⟩) (by assumption) ?_
  rotate_left
  · (intro w hSw; obtain ⟨s1, s2, s3⟩ := hSw; obtain ⟨q0, q1, q2, q3⟩ := s1.cells; obtain ⟨c0, c1, c2, c3⟩ := s2.cells; obtain ⟨d0, d1, d2, d3⟩ := s3.cells; go_simp; try (with_reducible rfl))
  simp only [Act.put, List.setIfInBounds_toArray, List.set_cons_zero, List.set_cons_succ]
  refine wpAnyH_take (i := 19) (v := ?_) (List.getElem?_toArray.trans rfl) (by kernel_rfl) (by kernel_rfl) (by kernel_rfl) (fun _ _ _ h => h) (Or.inl ⟨by rfl, ?_⟩) (by assumption) ?_
  rotate_left
  · (intro w hSw; obtain ⟨s1, s2, s3⟩ := hSw; obtain ⟨q0, q1, q2, q3⟩ := s1.cells; obtain ⟨c0, c1, c2, c3⟩ := s2.cells; obtain ⟨d0, d1, d2, d3⟩ := s3.cells; go_simp; try (with_reducible rfl))
  simp only [Act.put, List.setIfInBounds_toArray, List.set_cons_zero, List.set_cons_succ]
  refine wpAnyH_take (i := 20) (v := ?_) (List.getElem?_toArray.trans rfl) (by kernel_rfl) (by kernel_rfl) (by kernel_rfl) (fun _ _ _ h => h) (Or.inl ⟨by rfl, ?_⟩) (by assumption) ?_
  rotate_left
  · (intro w hSw; obtain ⟨s1, s2, s3⟩ := hSw; obtain ⟨q0, q1, q2, q3⟩ := s1.cells; obtain ⟨c0, c1, c2, c3⟩ := s2.cells; obtain ⟨d0, d1, d2, d3⟩ := s3.cells; go_simp; try (with_reducible rfl))
  simp only [Act.put, List.setIfInBounds_toArray, List.set_cons_zero, List.set_cons_succ]
  refine wpAnyH_take (i := 21) (v := ?_) (List.getElem?_toArray.trans rfl) (by kernel_rfl) (by kernel_rfl) (by kernel_rfl) (fun _ _ _ h => h) (Or.inl ⟨by rfl, ?_⟩) (by assumption) ?_
  rotate_left
  · (intro w hSw; obtain ⟨s1, s2, s3⟩ := hSw; obtain ⟨q0, q1, q2, q3⟩ := s1.cells; obtain ⟨c0, c1, c2, c3⟩ := s2.cells; obtain ⟨d0, d1, d2, d3⟩ := s3.cells; go_simp; try (with_reducible rfl))
  simp only [Act.put, List.setIfInBounds_toArray, List.set_cons_zero, List.set_cons_succ]
  refine wpAnyH_take (i := 22) (v := ?_) (List.getElem?_toArray.trans rfl) (by kernel_rfl) (by kernel_rfl) (by kernel_rfl) (fun _ _ _ h => h) (Or.inl ⟨by rfl, ?_⟩) (by assumption) ?_
  rotate_left
  · (intro w hSw; obtain ⟨s1, s2, s3⟩ := hSw; obtain ⟨q0, q1, q2, q3⟩ := s1.cells; obtain ⟨c0, c1, c2, c3⟩ := s2.cells; obtain ⟨d0, d1, d2, d3⟩ := s3.cells; go_simp; try (with_reducible rfl))
  simp only [Act.put, List.setIfInBounds_toArray, List.set_cons_zero, List.set_cons_succ]
  refine wpAnyH_take (i := 23) (v := ?_) (List.getElem?_toArray.trans rfl) (by kernel_rfl) (by kernel_rfl) (by kernel_rfl) (fun _ _ _ h => h) (Or.inl ⟨by rfl, ?_⟩) (by assumption) ?_
  rotate_left
  · (intro w hSw; obtain ⟨s1, s2, s3⟩ := hSw; obtain ⟨q0, q1, q2, q3⟩ := s1.cells; obtain ⟨c0, c1, c2, c3⟩ := s2.cells; obtain ⟨d0, d1, d2, d3⟩ := s3.cells; go_simp; try (with_reducible rfl))
  simp only [Act.put, List.setIfInBounds_toArray, List.set_cons_zero, List.set_cons_succ]
  refine wpAnyH_take (i := 24) (v := ?_) (List.getElem?_toArray.trans rfl) (by kernel_rfl) (by kernel_rfl) (by kernel_rfl) (fun _ _ _ h => h) (Or.inl ⟨by rfl, ?_⟩) (by assumption) ?_
  rotate_left
  · (intro w hSw; obtain ⟨s1, s2, s3⟩ := hSw; obtain ⟨q0, q1, q2, q3⟩ := s1.cells; obtain ⟨c0, c1, c2, c3⟩ := s2.cells; obtain ⟨d0, d1, d2, d3⟩ := s3.cells; go_simp; try (with_reducible rfl))
  simp only [Act.put, List.setIfInBounds_toArray, List.set_cons_zero, List.set_cons_succ]
  refine wpAnyH_take (i := 25) (v := ?_) (List.getElem?_toArray.trans rfl) (by kernel_rfl) (by kernel_rfl) (by kernel_rfl) (fun _ _ _ h => h) (Or.inl ⟨by rfl, ?_⟩) (by assumption) ?_
  rotate_left
  · (intro w hSw; obtain ⟨s1, s2, s3⟩ := hSw; obtain ⟨q0, q1, q2, q3⟩ := s1.cells; obtain ⟨c0, c1, c2, c3⟩ := s2.cells; obtain ⟨d0, d1, d2, d3⟩ := s3.cells; go_simp; try (with_reducible rfl))
  simp only [Act.put, List.setIfInBounds_toArray, List.set_cons_zero, List.set_cons_succ]
  refine wpAnyH_take (i := 26) (v := ?_) (List.getElem?_toArray.trans rfl) (by kernel_rfl) (by kernel_rfl) (by kernel_rfl) (fun _ _ _ h => h) (Or.inl ⟨by rfl, ?_⟩) (by assumption) ?_
  rotate_left
  · (intro w hSw; obtain ⟨s1, s2, s3⟩ := hSw; obtain ⟨q0, q1, q2, q3⟩ := s1.cells; obtain ⟨c0, c1, c2, c3⟩ := s2.cells; obtain ⟨d0, d1, d2, d3⟩ := s3.cells; go_simp; try (with_reducible rfl))
  simp only [Act.put, List.setIfInBounds_toArray, List.set_cons_zero, List.set_cons_succ]
  refine wpAnyH_take (i := 27) (v := ?_) (List.getElem?_toArray.trans rfl) (by kernel_rfl) (by kernel_rfl) (by kernel_rfl) (fun _ _ _ h => h) (Or.inl ⟨by rfl, ?_⟩) (by assumption) ?_
  rotate_left
  · (intro w hSw; obtain ⟨s1, s2, s3⟩ := hSw; obtain ⟨q0, q1, q2, q3⟩ := s1.cells; obtain ⟨c0, c1, c2, c3⟩ := s2.cells; obtain ⟨d0, d1, d2, d3⟩ := s3.cells; go_simp; try (with_reducible rfl))
  simp only [Act.put, List.setIfInBounds_toArray, List.set_cons_zero, List.set_cons_succ]
  refine wpAnyH_take (i := 28) (v := ?_) (List.getElem?_toArray.trans rfl) (by kernel_rfl) (by kernel_rfl) (by kernel_rfl) (fun _ _ _ h => h) (Or.inl ⟨by rfl, ?_⟩) (by assumption) ?_
  rotate_left
  · (intro w hSw; obtain ⟨s1, s2, s3⟩ := hSw; obtain ⟨q0, q1, q2, q3⟩ := s1.cells; obtain ⟨c0, c1, c2, c3⟩ := s2.cells; obtain ⟨d0, d1, d2, d3⟩ := s3.cells; go_simp; try (with_reducible rfl))
  simp only [Act.put, List.setIfInBounds_toArray, List.set_cons_zero, List.set_cons_succ]
  refine wpAnyH_take (i := 29) (v := ?_) (List.getElem?_toArray.trans rfl) (by kernel_rfl) (by kernel_rfl) (by kernel_rfl) (fun _ _ _ h => h) (Or.inl ⟨by rfl, ?_⟩) (by assumption) ?_
  rotate_left
  · (intro w hSw; obtain ⟨s1, s2, s3⟩ := hSw; obtain ⟨q0, q1, q2, q3⟩ := s1.cells; obtain ⟨c0, c1, c2, c3⟩ := s2.cells; obtain ⟨d0, d1, d2, d3⟩ := s3.cells; go_simp; try (with_reducible rfl))
  simp only [Act.put, List.setIfInBounds_toArray, List.set_cons_zero, List.set_cons_succ]
  refine wpAnyH_take (i := 30) (v := ?_) (List.getElem?_toArray.trans rfl) (by kernel_rfl) (by kernel_rfl) (by kernel_rfl) (fun _ _ _ h => h) (Or.inl ⟨by rfl, ?_⟩) (by assumption) ?_
  rotate_left
  · (intro w hSw; obtain ⟨s1, s2, s3⟩ := hSw; obtain ⟨q0, q1, q2, q3⟩ := s1.cells; obtain ⟨c0, c1, c2, c3⟩ := s2.cells; obtain ⟨d0, d1, d2, d3⟩ := s3.cells; go_simp; try (with_reducible rfl))
  simp only [Act.put, List.setIfInBounds_toArray, List.set_cons_zero, List.set_cons_succ]
  refine wpAnyH_take (i := 31) (v := ?_) (List.getElem?_toArray.trans rfl) (by kernel_rfl) (by kernel_rfl) (by kernel_rfl) (fun _ _ _ h => h) (Or.inl ⟨by rfl, ?_⟩) (by assumption) ?_
  rotate_left
  · (intro w hSw; obtain ⟨s1, s2, s3⟩ := hSw; obtain ⟨q0, q1, q2, q3⟩ := s1.cells; obtain ⟨c0, c1, c2, c3⟩ := s2.cells; obtain ⟨d0, d1, d2, d3⟩ := s3.cells; go_simp; try (with_reducible rfl))
  simp only [Act.put, List.setIfInBounds_toArray, List.set_cons_zero, List.set_cons_succ]
  refine wpAnyH_take (i := 32) (v := ?_) (List.getElem?_toArray.trans rfl) (by kernel_rfl) (by kernel_rfl) (by kernel_rfl) (fun _ _ _ h => h) (Or.inl ⟨by rfl, ?_⟩) (by assumption) ?_
  rotate_left
  · (intro w hSw; obtain ⟨s1, s2, s3⟩ := hSw; obtain ⟨q0, q1, q2, q3⟩ := s1.cells; obtain ⟨c0, c1, c2, c3⟩ := s2.cells; obtain ⟨d0, d1, d2, d3⟩ := s3.cells; go_simp; try (with_reducible rfl))
  simp only [Act.put, List.setIfInBounds_toArray, List.set_cons_zero, List.set_cons_succ]
  refine wpAnyH_take (i := 33) (v := ?_) (List.getElem?_toArray.trans rfl) (by kernel_rfl) (by kernel_rfl) (by kernel_rfl) (fun _ _ _ h => h) (Or.inl ⟨by rfl, ?_⟩) (by assumption) ?_
  rotate_left
  · (intro w hSw; obtain ⟨s1, s2, s3⟩ := hSw; obtain ⟨q0, q1, q2, q3⟩ := s1.cells; obtain ⟨c0, c1, c2, c3⟩ := s2.cells; obtain ⟨d0, d1, d2, d3⟩ := s3.cells; go_simp; try (with_reducible rfl))
  simp only [Act.put, List.setIfInBounds_toArray, List.set_cons_zero, List.set_cons_succ]
  refine wpAnyH_take (i := 34) (v := ?_) (List.getElem?_toArray.trans rfl) (by kernel_rfl) (by kernel_rfl) (by kernel_rfl) (fun _ _ _ h => h) (Or.inl ⟨by rfl, ?_⟩) (by assumption) ?_
  rotate_left
  · (intro w hSw; obtain ⟨s1, s2, s3⟩ := hSw; obtain ⟨q0, q1, q2, q3⟩ := s1.cells; obtain ⟨c0, c1, c2, c3⟩ := s2.cells; obtain ⟨d0, d1, d2, d3⟩ := s3.cells; go_simp; try (with_reducible rfl))
  simp only [Act.put, List.setIfInBounds_toArray, List.set_cons_zero, List.set_cons_succ]
  refine wpAnyH_take (i := 35) (v := ?_) (List.getElem?_toArray.trans rfl) (by kernel_rfl) (by kernel_rfl) (by kernel_rfl) (fun _ _ _ h => h) (Or.inl ⟨by rfl, ?_⟩) (by assumption) ?_
  rotate_left
  · (intro w hSw; obtain ⟨s1, s2, s3⟩ := hSw; obtain ⟨q0, q1, q2, q3⟩ := s1.cells; obtain ⟨c0, c1, c2, c3⟩ := s2.cells; obtain ⟨d0, d1, d2, d3⟩ := s3.cells; go_simp; try (with_reducible rfl))
  simp only [Act.put, List.setIfInBounds_toArray, List.set_cons_zero, List.set_cons_succ]
  refine wpAnyH_take (i := 36) (v := ?_) (List.getElem?_toArray.trans rfl) (by kernel_rfl) (by kernel_rfl) (by kernel_rfl) (fun _ _ _ h => h) (Or.inl ⟨by rfl, ?_⟩) (by assumption) ?_
  rotate_left
  · (intro w hSw; obtain ⟨s1, s2, s3⟩ := hSw; obtain ⟨q0, q1, q2, q3⟩ := s1.cells; obtain ⟨c0, c1, c2, c3⟩ := s2.cells; obtain ⟨d0, d1, d2, d3⟩ := s3.cells; go_simp; try (with_reducible rfl))
  simp only [Act.put, List.setIfInBounds_toArray, List.set_cons_zero, List.set_cons_succ]
  refine wpAnyH_take (i := 37) (v := ?_) (List.getElem?_toArray.trans rfl) (by kernel_rfl) (by kernel_rfl) (by kernel_rfl) (fun _ _ _ h => h) (Or.inl ⟨by rfl, ?_⟩) (by assumption) ?_
  rotate_left
  · (intro w hSw; obtain ⟨s1, s2, s3⟩ := hSw; obtain ⟨q0, q1, q2, q3⟩ := s1.cells; obtain ⟨c0, c1, c2, c3⟩ := s2.cells; obtain ⟨d0, d1, d2, d3⟩ := s3.cells; go_simp; try (with_reducible rfl))
  simp only [Act.put, List.setIfInBounds_toArray, List.set_cons_zero, List.set_cons_succ]
  refine wpAnyH_take (i := 38) (v := ?_) (List.getElem?_toArray.trans rfl) (by kernel_rfl) (by kernel_rfl) (by kernel_rfl) (fun _ _ _ h => h) (Or.inl ⟨by rfl, ?_⟩) (by assumption) ?_
  rotate_left
  · (intro w hSw; obtain ⟨s1, s2, s3⟩ := hSw; obtain ⟨q0, q1, q2, q3⟩ := s1.cells; obtain ⟨c0, c1, c2, c3⟩ := s2.cells; obtain ⟨d0, d1, d2, d3⟩ := s3.cells; go_simp; try (with_reducible rfl))
  simp only [Act.put, List.setIfInBounds_toArray, List.set_cons_zero, List.set_cons_succ]
  refine wpAnyH_take (i := 39) (v := ?_) (List.getElem?_toArray.trans rfl) (by kernel_rfl) (by kernel_rfl) (by kernel_rfl) (fun _ _ _ h => h) (Or.inl ⟨by rfl, ?_⟩) (by assumption) ?_
  rotate_left
  · (intro w hSw; obtain ⟨s1, s2, s3⟩ := hSw; obtain ⟨q0, q1, q2, q3⟩ := s1.cells; obtain ⟨c0, c1, c2, c3⟩ := s2.cells; obtain ⟨d0, d1, d2, d3⟩ := s3.cells; go_simp; try (with_reducible rfl))
  simp only [Act.put, List.setIfInBounds_toArray, List.set_cons_zero, List.set_cons_succ]
  refine wpAnyH_take (i := 40) (v := ?_) (List.getElem?_toArray.trans rfl) (by kernel_rfl) (by kernel_rfl) (by kernel_rfl) (fun _ _ _ h => h) (Or.inl ⟨by rfl, ?_⟩) (by assumption) ?_
  rotate_left
  · (intro w hSw; obtain ⟨s1, s2, s3⟩ := hSw; obtain ⟨q0, q1, q2, q3⟩ := s1.cells; obtain ⟨c0, c1, c2, c3⟩ := s2.cells; obtain ⟨d0, d1, d2, d3⟩ := s3.cells; go_simp; try (with_reducible rfl))
  simp only [Act.put, List.setIfInBounds_toArray, List.set_cons_zero, List.set_cons_succ]
  refine wpAnyH_take (i := 41) (v := ?_) (List.getElem?_toArray.trans rfl) (by kernel_rfl) (by kernel_rfl) (by kernel_rfl) (fun _ _ _ h => h) (Or.inl ⟨by rfl, ?_⟩) (by assumption) ?_
  rotate_left
  · (intro w hSw; obtain ⟨s1, s2, s3⟩ := hSw; obtain ⟨q0, q1, q2, q3⟩ := s1.cells; obtain ⟨c0, c1, c2, c3⟩ := s2.cells; obtain ⟨d0, d1, d2, d3⟩ := s3.cells; go_simp; try (with_reducible rfl))
  simp only [Act.put, List.setIfInBounds_toArray, List.set_cons_zero, List.set_cons_succ]
  refine wpAnyH_take (i := 42) (v := ?_) (List.getElem?_toArray.trans rfl) (by kernel_rfl) (by kernel_rfl) (by kernel_rfl) (fun _ _ _ h => h) (Or.inl ⟨by rfl, ?_⟩) (by assumption) ?_
  rotate_left
  · (intro w hSw; obtain ⟨s1, s2, s3⟩ := hSw; obtain ⟨q0, q1, q2, q3⟩ := s1.cells; obtain ⟨c0, c1, c2, c3⟩ := s2.cells; obtain ⟨d0, d1, d2, d3⟩ := s3.cells; go_simp; try (with_reducible rfl))
  simp only [Act.put, List.setIfInBounds_toArray, List.set_cons_zero, List.set_cons_succ]
  refine wpAnyH_take (i := 43) (v := ?_) (List.getElem?_toArray.trans rfl) (by kernel_rfl) (by kernel_rfl) (by kernel_rfl) (fun _ _ _ h => h) (Or.inl ⟨by rfl, ?_⟩) (by assumption) ?_
  rotate_left
  · (intro w hSw; obtain ⟨s1, s2, s3⟩ := hSw; obtain ⟨q0, q1, q2, q3⟩ := s1.cells; obtain ⟨c0, c1, c2, c3⟩ := s2.cells; obtain ⟨d0, d1, d2, d3⟩ := s3.cells; go_simp; try (with_reducible rfl))
  simp only [Act.put, List.setIfInBounds_toArray, List.set_cons_zero, List.set_cons_succ]
  refine wpAnyH_take (i := 44) (v := ?_) (List.getElem?_toArray.trans rfl) (by kernel_rfl) (by kernel_rfl) (by kernel_rfl) (fun _ _ _ h => h) (Or.inl ⟨by rfl, ?_⟩) (by assumption) ?_
  rotate_left
  · (intro w hSw; obtain ⟨s1, s2, s3⟩ := hSw; obtain ⟨q0, q1, q2, q3⟩ := s1.cells; obtain ⟨c0, c1, c2, c3⟩ := s2.cells; obtain ⟨d0, d1, d2, d3⟩ := s3.cells; go_simp; try (with_reducible rfl))
  simp only [Act.put, List.setIfInBounds_toArray, List.set_cons_zero, List.set_cons_succ]
  refine wpAnyH_take (i := 45) (v := ?_) (List.getElem?_toArray.trans rfl) (by kernel_rfl) (by kernel_rfl) (by kernel_rfl) (fun _ _ _ h => h) (Or.inl ⟨by rfl, ?_⟩) (by assumption) ?_
  rotate_left
  · (intro w hSw; obtain ⟨s1, s2, s3⟩ := hSw; obtain ⟨q0, q1, q2, q3⟩ := s1.cells; obtain ⟨c0, c1, c2, c3⟩ := s2.cells; obtain ⟨d0, d1, d2, d3⟩ := s3.cells; go_simp; try (with_reducible rfl))
  simp only [Act.put, List.setIfInBounds_toArray, List.set_cons_zero, List.set_cons_succ]
  refine wpAnyH_take (i := 46) (v := ?_) (List.getElem?_toArray.trans rfl) (by kernel_rfl) (by kernel_rfl) (by kernel_rfl) (fun _ _ _ h => h) (Or.inl ⟨by rfl, ?_⟩) (by assumption) ?_
  rotate_left
  · (intro w hSw; obtain ⟨s1, s2, s3⟩ := hSw; obtain ⟨q0, q1, q2, q3⟩ := s1.cells; obtain ⟨c0, c1, c2, c3⟩ := s2.cells; obtain ⟨d0, d1, d2, d3⟩ := s3.cells; go_simp; try (with_reducible rfl))
  simp only [Act.put, List.setIfInBounds_toArray, List.set_cons_zero, List.set_cons_succ]
  refine wpAnyH_take (i := 48) (v := ?_) (List.getElem?_toArray.trans rfl) (by kernel_rfl) (by kernel_rfl) (by kernel_rfl) (fun _ _ _ h => h) (Or.inl ⟨by rfl, ?_⟩) (by assumption) ?_
  rotate_left
  · (intro w hSw; obtain ⟨s1, s2, s3⟩ := hSw; obtain ⟨q0, q1, q2, q3⟩ := s1.cells; obtain ⟨c0, c1, c2, c3⟩ := s2.cells; obtain ⟨d0, d1, d2, d3⟩ := s3.cells; go_simp; try (with_reducible rfl))
  simp only [Act.put, List.setIfInBounds_toArray, List.set_cons_zero, List.set_cons_succ]
  refine wpAnyH_ready (rs := [47]) (by kernel_rfl) (by simp) ?_
  refine AllReadyH.cons (List.getElem?_toArray.trans rfl) (fun K3 hK3 => ?_) AllReadyH.nil
  go_simp
  refine (c7 _ T8).mono ?_
  rintro e w10 ⟨rfl, hb10⟩
  dsimp only
  refine hK3.out _ _ ⟨(hS.drew.kept hb10), (hA.drew.kept hb10), (hB.drew.kept hb10)⟩ (fun hHeld3 => ?_)
  clear hK3 K3
  refine wpAnyH_ready (rs := [49]) (by kernel_rfl) (by simp) ?_
  refine AllReadyH.cons (List.getElem?_toArray.trans rfl) (fun K3 hK3 => ?_) AllReadyH.nil
  go_simp
  refine (c8 _).mono ?_
  rintro e w11 ⟨rfl, hb11⟩
  dsimp only
  refine hK3.out _ _ ⟨((hS.drew.kept hb10).kept hb11), ((hA.drew.kept hb10).kept hb11), ((hB.drew.kept hb10).kept hb11)⟩ (fun hHeld3 => ?_)
  clear hK3 K3
  refine wpAnyH_take (i := 50) (v := ?_) (List.getElem?_toArray.trans rfl) (by kernel_rfl) (by kernel_rfl) (by kernel_rfl) (fun _ _ _ h => h) (Or.inl ⟨by rfl, ?_⟩) (by assumption) ?_
  rotate_left
  · (intro w hSw; obtain ⟨s1, s2, s3⟩ := hSw; obtain ⟨q0, q1, q2, q3⟩ := s1.cells; obtain ⟨c0, c1, c2, c3⟩ := s2.cells; obtain ⟨d0, d1, d2, d3⟩ := s3.cells; go_simp; try (with_reducible rfl))
  simp only [Act.put, List.setIfInBounds_toArray, List.set_cons_zero, List.set_cons_succ]
  refine wpAnyH_take (i := 51) (v := ?_) (List.getElem?_toArray.trans rfl) (by kernel_rfl) (by kernel_rfl) (by kernel_rfl) (fun _ _ _ h => h) (Or.inl ⟨by rfl, ?_⟩) (by assumption) ?_
  rotate_left
  · (intro w hSw; obtain ⟨s1, s2, s3⟩ := hSw; obtain ⟨q0, q1, q2, q3⟩ := s1.cells; obtain ⟨c0, c1, c2, c3⟩ := s2.cells; obtain ⟨d0, d1, d2, d3⟩ := s3.cells; go_simp; try (with_reducible rfl))
  simp only [Act.put, List.setIfInBounds_toArray, List.set_cons_zero, List.set_cons_succ]
  refine wpAnyH_take (i := 52) (v := ?_) (List.getElem?_toArray.trans rfl) (by kernel_rfl) (by kernel_rfl) (by kernel_rfl) (fun _ _ _ h => h) (Or.inl ⟨by rfl, ?_⟩) (by assumption) ?_
  rotate_left
  · (intro w hSw; obtain ⟨s1, s2, s3⟩ := hSw; obtain ⟨q0, q1, q2, q3⟩ := s1.cells; obtain ⟨c0, c1, c2, c3⟩ := s2.cells; obtain ⟨d0, d1, d2, d3⟩ := s3.cells; go_simp; try (with_reducible rfl))
  simp only [Act.put, List.setIfInBounds_toArray, List.set_cons_zero, List.set_cons_succ]
  refine wpAnyH_take (i := 53) (v := ?_) (List.getElem?_toArray.trans rfl) (by kernel_rfl) (by kernel_rfl) (by kernel_rfl) (fun _ _ _ h => h) (Or.inl ⟨by rfl, ?_⟩) (by assumption) ?_
  rotate_left
  · (intro w hSw; obtain ⟨s1, s2, s3⟩ := hSw; obtain ⟨q0, q1, q2, q3⟩ := s1.cells; obtain ⟨c0, c1, c2, c3⟩ := s2.cells; obtain ⟨d0, d1, d2, d3⟩ := s3.cells; go_simp; try (with_reducible rfl))
  simp only [Act.put, List.setIfInBounds_toArray, List.set_cons_zero, List.set_cons_succ]
  refine wpAnyH_take (i := 54) (v := ?_) (List.getElem?_toArray.trans rfl) (by kernel_rfl) (by kernel_rfl) (by kernel_rfl) (fun _ _ _ h => h) (Or.inl ⟨by rfl, ?_⟩) (by assumption) ?_
  rotate_left
  · (intro w hSw; obtain ⟨s1, s2, s3⟩ := hSw; obtain ⟨q0, q1, q2, q3⟩ := s1.cells; obtain ⟨c0, c1, c2, c3⟩ := s2.cells; obtain ⟨d0, d1, d2, d3⟩ := s3.cells; go_simp; try (with_reducible rfl))
  simp only [Act.put, List.setIfInBounds_toArray, List.set_cons_zero, List.set_cons_succ]
  refine wpAnyH_take (i := 55) (v := ?_) (List.getElem?_toArray.trans rfl) (by kernel_rfl) (by kernel_rfl) (by kernel_rfl) (fun _ _ _ h => h) (Or.inl ⟨by rfl, ?_⟩) (by assumption) ?_
  rotate_left
  · (intro w hSw; obtain ⟨s1, s2, s3⟩ := hSw; obtain ⟨q0, q1, q2, q3⟩ := s1.cells; obtain ⟨c0, c1, c2, c3⟩ := s2.cells; obtain ⟨d0, d1, d2, d3⟩ := s3.cells; go_simp; try (with_reducible rfl))
  simp only [Act.put, List.setIfInBounds_toArray, List.set_cons_zero, List.set_cons_succ]
  refine wpAnyH_take (i := 57) (v := ?_) (List.getElem?_toArray.trans rfl) (by kernel_rfl) (by kernel_rfl) (by kernel_rfl) (fun _ _ _ h => h) (Or.inl ⟨by rfl, ?_⟩) (by assumption) ?_
  rotate_left
  · (intro w hSw; obtain ⟨s1, s2, s3⟩ := hSw; obtain ⟨q0, q1, q2, q3⟩ := s1.cells; obtain ⟨c0, c1, c2, c3⟩ := s2.cells; obtain ⟨d0, d1, d2, d3⟩ := s3.cells; go_simp; try (with_reducible rfl))
  simp only [Act.put, List.setIfInBounds_toArray, List.set_cons_zero, List.set_cons_succ]
  refine wpAnyH_take (i := 58) (v := ?_) (List.getElem?_toArray.trans rfl) (by kernel_rfl) (by kernel_rfl) (by kernel_rfl) (fun _ _ _ h => h) (Or.inl ⟨by rfl, ?_⟩) (by assumption) ?_
  rotate_left
  · (intro w hSw; obtain ⟨s1, s2, s3⟩ := hSw; obtain ⟨q0, q1, q2, q3⟩ := s1.cells; obtain ⟨c0, c1, c2, c3⟩ := s2.cells; obtain ⟨d0, d1, d2, d3⟩ := s3.cells; go_simp; try (with_reducible rfl))
  simp only [Act.put, List.setIfInBounds_toArray, List.set_cons_zero, List.set_cons_succ]
  refine wpAnyH_take (i := 59) (v := ?_) (List.getElem?_toArray.trans rfl) (by kernel_rfl) (by kernel_rfl) (by kernel_rfl) (fun _ _ _ h => h) (Or.inl ⟨by rfl, ?_⟩) (by assumption) ?_
  rotate_left
  · (intro w hSw; obtain ⟨s1, s2, s3⟩ := hSw; obtain ⟨q0, q1, q2, q3⟩ := s1.cells; obtain ⟨c0, c1, c2, c3⟩ := s2.cells; obtain ⟨d0, d1, d2, d3⟩ := s3.cells; go_simp; try (with_reducible rfl))
  simp only [Act.put, List.setIfInBounds_toArray, List.set_cons_zero, List.set_cons_succ]
  refine wpAnyH_ready (rs := [56]) (by kernel_rfl) (by simp) ?_
  refine AllReadyH.cons (List.getElem?_toArray.trans rfl) (fun K3 hK3 => ?_) AllReadyH.nil
  go_simp
  refine (c9 _).mono ?_
  rintro e w12 ⟨rfl, hb12⟩
  dsimp only
  refine hK3.out _ _ ⟨(((hS.drew.kept hb10).kept hb11).kept hb12), (((hA.drew.kept hb10).kept hb11).kept hb12), (((hB.drew.kept hb10).kept hb11).kept hb12)⟩ (fun hHeld3 => ?_)
  clear hK3 K3
  refine wpAnyH_ready (rs := [60]) (by kernel_rfl) (by simp) ?_
  refine AllReadyH.cons (List.getElem?_toArray.trans rfl) (fun K3 hK3 => ?_) AllReadyH.nil
  go_simp
  refine (ca _).mono ?_
  rintro e w13 ⟨rfl, hb13⟩
  dsimp only
  refine hK3.out _ _ ⟨((((hS.drew.kept hb10).kept hb11).kept hb12).kept hb13), ((((hA.drew.kept hb10).kept hb11).kept hb12).kept hb13), ((((hB.drew.kept hb10).kept hb11).kept hb12).kept hb13)⟩ (fun hHeld3 => ?_)
  clear hK3 K3
  refine wpAnyH_take (i := 61) (v := ?_) (List.getElem?_toArray.trans rfl) (by kernel_rfl) (by kernel_rfl) (by kernel_rfl) (fun _ _ _ h => h) (Or.inl ⟨by rfl, ?_⟩) (by assumption) ?_
  rotate_left
  · (intro w hSw; obtain ⟨s1, s2, s3⟩ := hSw; obtain ⟨q0, q1, q2, q3⟩ := s1.cells; obtain ⟨c0, c1, c2, c3⟩ := s2.cells; obtain ⟨d0, d1, d2, d3⟩ := s3.cells; go_simp; try (with_reducible rfl))
  simp only [Act.put, List.setIfInBounds_toArray, List.set_cons_zero, List.set_cons_succ]
  refine wpAnyH_take (i := 62) (v := ?_) (List.getElem?_toArray.trans rfl) (by kernel_rfl) (by kernel_rfl) (by kernel_rfl) (fun _ _ _ h => h) (Or.inl ⟨by rfl, ?_⟩) (by assumption) ?_
  rotate_left
  · (intro w hSw; obtain ⟨s1, s2, s3⟩ := hSw; obtain ⟨q0, q1, q2, q3⟩ := s1.cells; obtain ⟨c0, c1, c2, c3⟩ := s2.cells; obtain ⟨d0, d1, d2, d3⟩ := s3.cells; go_simp; try (with_reducible rfl))
  simp only [Act.put, List.setIfInBounds_toArray, List.set_cons_zero, List.set_cons_succ]
  refine wpAnyH_take (i := 63) (v := ?_) (List.getElem?_toArray.trans rfl) (by kernel_rfl) (by kernel_rfl) (by kernel_rfl) (fun _ _ _ h => h) (Or.inl ⟨by rfl, ?_⟩) (by assumption) ?_
  rotate_left
  · (intro w hSw; obtain ⟨s1, s2, s3⟩ := hSw; obtain ⟨q0, q1, q2, q3⟩ := s1.cells; obtain ⟨c0, c1, c2, c3⟩ := s2.cells; obtain ⟨d0, d1, d2, d3⟩ := s3.cells; go_simp; try (with_reducible rfl))
  simp only [Act.put, List.setIfInBounds_toArray, List.set_cons_zero, List.set_cons_succ]
  refine wpAnyH_done (by kernel_rfl) ?_ _
  go_wp2
  go_ret
  exact ⟨ret_bool (by simp), next (next (next (next (k8.drew) hb10) hb11) hb12) hb13⟩
end Go.Proofs.YtfglbhdfdpnnfaaDoor
