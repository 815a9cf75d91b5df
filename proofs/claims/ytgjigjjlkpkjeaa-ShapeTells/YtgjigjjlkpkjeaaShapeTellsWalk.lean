/- 'ShapeTells' walked. (tools/gen_shape.py writes it.) -/
import Derived.Test.YtgjigjjlkpkjeaaSmallShp
import Derived.Deep.RegionHeld3
namespace Go.Proofs.Ytgjigjjlkpkjeaa
set_option maxRecDepth 100000
open Go.RowKit
set_option linter.unusedVariables false
set_option linter.unusedSimpArgs false
set_option maxRecDepth 100000

theorem BxS4.drew {w : World} {b : Nat} {s : Shp} (h : BxS4 w b s) : BxS4 w.drew b s := h
theorem BxA.drew {w : World} {b : Nat} {s : Ars} (h : BxA w b s) : BxA w.drew b s := h
set_option maxHeartbeats 4000000 in
theorem shapeTells_walk (w : World) (s : Shp) (hs : ShG s) (line : Int) (hl : (Lit.int .i64 line).wf = true) :
    Calls Try.prog 3 #[.agg #[.int .i64 s.pg, .int .i64 s.sl, .int .i64 s.rt, .int .i64 s.rm], .int .i64 line] w fun e w' => e = .returned (.bool true) ∧ Below w.heap.size w w' := by
  have hL : Rg line := bounds_i64 hl
  have hb0 : Below w.heap.size w (w.alloc (.cells #[.int .i64 s.pg, .int .i64 s.sl, .int .i64 s.rt, .int .i64 s.rm] 23)) := (Below.refl _ _).alloc (Nat.le_refl _) _
  have cM := smallSh_any (w.alloc (.cells #[.int .i64 s.pg, .int .i64 s.sl, .int .i64 s.rt, .int .i64 s.rm] 23))
  have cA : ∀ w1, _ := fun w1 => shAreas_any s hs w1
  have cB : ∀ w1, _ := fun w1 => rareasS_any s w1
  have cR : ∀ w1, _ := fun w1 => shRight_any s hs w1
  have cS : ∀ w1, _ := fun w1 => rrightS_any s.pg s.sl s.rt s.rm w1
  have cO : ∀ w1, _ := fun w1 => shOut_any s hs line hL w1
  have cP : ∀ w1, _ := fun w1 => routside_any s line w1
  have HB : Hid (∀ w1, Below (w.alloc (.cells #[.int .i64 s.pg, .int .i64 s.sl, .int .i64 s.rt, .int .i64 s.rm] 23)).heap.size (w.alloc (.cells #[.int .i64 s.pg, .int .i64 s.sl, .int .i64 s.rt, .int .i64 s.rm] 23)) w1 → BxS4 w1 w.heap.size s ∧ Below w.heap.size w w1) := hid (fun w1 hb => ⟨(bxS4_new w s).kept hb, next hb0 hb⟩)
  generalize ar0 s = x0 at *
  generalize ar1 s = x1 at *
  generalize ar2 s = x2 at *
  generalize ar3 s = x3 at *
  generalize ar4 s = x4 at *
  generalize ar5 s = x5 at *
  generalize ar6 s = x6 at *
  generalize ar7 s = x7 at *
  generalize ar8 s = x8 at *
  generalize arE s = xE at *
  generalize shB s = B1 at *
  generalize outB s line = B2 at *
  clear hs hb0 hl hL
  go_enter Try.func3, Try.ntmps3
  go_wp2_with (first
    | (go_at_call 6; with_reducible refine cM.mono ?_; rintro e w1 ⟨rfl, hb1⟩; obtain ⟨hs1, hbw1⟩ := HB.out w1 hb1; obtain ⟨q0, q1, q2, q3⟩ := hs1.cells)
    | (go_at_call 7; with_reducible refine (cA w1).mono ?_; rintro e w2 ⟨rfl, hb2⟩; have hs2 := hs1.kept hb2; have hbw2 := next hbw1 hb2; obtain ⟨r0, r1, r2, r3⟩ := hs2.cells; have hl2 := hs2.lt)
    | (go_at_call 8; with_reducible refine (cB (w2.alloc (.cells #[.int .i64 x0, .int .i64 x1, .int .i64 x2, .int .i64 x3, .int .i64 x4, .int .i64 x5, .int .i64 x6, .int .i64 x7, .int .i64 x8] 28))).mono ?_; rintro e w3 ⟨rfl, hb3⟩))
  have hS := ((hs2.more (.cells #[.int .i64 x0, .int .i64 x1, .int .i64 x2, .int .i64 x3, .int .i64 x4, .int .i64 x5, .int .i64 x6, .int .i64 x7, .int .i64 x8] 28)).kept hb3).more (.cells #[.int .i64 x0, .int .i64 x1, .int .i64 x2, .int .i64 x3, .int .i64 x4, .int .i64 x5, .int .i64 x6, .int .i64 x7, .int .i64 x8] 28)
  have hA := ((bxA_new w2 ⟨x0, x1, x2, x3, x4, x5, x6, x7, x8⟩).kept hb3).more (.cells #[.int .i64 x0, .int .i64 x1, .int .i64 x2, .int .i64 x3, .int .i64 x4, .int .i64 x5, .int .i64 x6, .int .i64 x7, .int .i64 x8] 28)
  have hB := bxA_new w3 ⟨x0, x1, x2, x3, x4, x5, x6, x7, x8⟩
  have k3 := next (hbw2.alloc hbw2.size (.cells #[.int .i64 x0, .int .i64 x1, .int .i64 x2, .int .i64 x3, .int .i64 x4, .int .i64 x5, .int .i64 x6, .int .i64 x7, .int .i64 x8] 28)) hb3
  have k4 := (k3.alloc k3.size (.cells #[.int .i64 x0, .int .i64 x1, .int .i64 x2, .int .i64 x3, .int .i64 x4, .int .i64 x5, .int .i64 x6, .int .i64 x7, .int .i64 x8] 28)).drew
  clear HB cM cA cB hb1 hs1 hbw1 hb2 hbw2 hs2 hl2 hb3 q0 q1 q2 q3 r0 r1 r2 r3
  refine wp_region_held_drew (S := fun w' => BxS4 w' w.heap.size s ∧ BxA w' w2.heap.size ⟨x0, x1, x2, x3, x4, x5, x6, x7, x8⟩ ∧ BxA w' w3.heap.size ⟨x0, x1, x2, x3, x4, x5, x6, x7, x8⟩) (by kernel_rfl) ⟨hS, hA, hB⟩ (fun hH => ?_)
  refine wpAnyH_take (i := 0) (v := ?_) (List.getElem?_toArray.trans rfl) (by kernel_rfl) (by kernel_rfl) (by kernel_rfl) (fun _ _ _ h => h) (Or.inl ⟨by rfl, ?_⟩) (by assumption) ?_
  rotate_left
  · (intro w hSw; obtain ⟨s1, s2, s3⟩ := hSw; obtain ⟨q0, q1, q2, q3⟩ := s1.cells; obtain ⟨c0, c1, c2, c3, c4, c5, c6, c7, c8⟩ := s2.cells; obtain ⟨d0, d1, d2, d3, d4, d5, d6, d7, d8⟩ := s3.cells; go_simp; try (with_reducible rfl))
  simp only [Act.put, List.setIfInBounds_toArray, List.set_cons_zero, List.set_cons_succ]
  refine wpAnyH_take (i := 1) (v := ?_) (List.getElem?_toArray.trans rfl) (by kernel_rfl) (by kernel_rfl) (by kernel_rfl) (fun _ _ _ h => h) (Or.inl ⟨by rfl, ?_⟩) (by assumption) ?_
  rotate_left
  · (intro w hSw; obtain ⟨s1, s2, s3⟩ := hSw; obtain ⟨q0, q1, q2, q3⟩ := s1.cells; obtain ⟨c0, c1, c2, c3, c4, c5, c6, c7, c8⟩ := s2.cells; obtain ⟨d0, d1, d2, d3, d4, d5, d6, d7, d8⟩ := s3.cells; go_simp; try (with_reducible rfl))
  simp only [Act.put, List.setIfInBounds_toArray, List.set_cons_zero, List.set_cons_succ]
  refine wpAnyH_take (i := 2) (v := ?_) (List.getElem?_toArray.trans rfl) (by kernel_rfl) (by kernel_rfl) (by kernel_rfl) (fun _ _ _ h => h) (Or.inl ⟨by rfl, ?_⟩) (by assumption) ?_
  rotate_left
  · (intro w hSw; obtain ⟨s1, s2, s3⟩ := hSw; obtain ⟨q0, q1, q2, q3⟩ := s1.cells; obtain ⟨c0, c1, c2, c3, c4, c5, c6, c7, c8⟩ := s2.cells; obtain ⟨d0, d1, d2, d3, d4, d5, d6, d7, d8⟩ := s3.cells; go_simp; try (with_reducible rfl))
  simp only [Act.put, List.setIfInBounds_toArray, List.set_cons_zero, List.set_cons_succ]
  refine wpAnyH_take (i := 3) (v := ?_) (List.getElem?_toArray.trans rfl) (by kernel_rfl) (by kernel_rfl) (by kernel_rfl) (fun _ _ _ h => h) (Or.inl ⟨by rfl, ?_⟩) (by assumption) ?_
  rotate_left
  · (intro w hSw; obtain ⟨s1, s2, s3⟩ := hSw; obtain ⟨q0, q1, q2, q3⟩ := s1.cells; obtain ⟨c0, c1, c2, c3, c4, c5, c6, c7, c8⟩ := s2.cells; obtain ⟨d0, d1, d2, d3, d4, d5, d6, d7, d8⟩ := s3.cells; go_simp; try (with_reducible rfl))
  simp only [Act.put, List.setIfInBounds_toArray, List.set_cons_zero, List.set_cons_succ]
  refine wpAnyH_take (i := 4) (v := ?_) (List.getElem?_toArray.trans rfl) (by kernel_rfl) (by kernel_rfl) (by kernel_rfl) (fun _ _ _ h => h) (Or.inl ⟨by rfl, ?_⟩) (by assumption) ?_
  rotate_left
  · (intro w hSw; obtain ⟨s1, s2, s3⟩ := hSw; obtain ⟨q0, q1, q2, q3⟩ := s1.cells; obtain ⟨c0, c1, c2, c3, c4, c5, c6, c7, c8⟩ := s2.cells; obtain ⟨d0, d1, d2, d3, d4, d5, d6, d7, d8⟩ := s3.cells; go_simp; try (with_reducible rfl))
  simp only [Act.put, List.setIfInBounds_toArray, List.set_cons_zero, List.set_cons_succ]
  refine wpAnyH_take (i := 5) (v := ?_) (List.getElem?_toArray.trans rfl) (by kernel_rfl) (by kernel_rfl) (by kernel_rfl) (fun _ _ _ h => h) (Or.inl ⟨by rfl, ?_⟩) (by assumption) ?_
  rotate_left
  · (intro w hSw; obtain ⟨s1, s2, s3⟩ := hSw; obtain ⟨q0, q1, q2, q3⟩ := s1.cells; obtain ⟨c0, c1, c2, c3, c4, c5, c6, c7, c8⟩ := s2.cells; obtain ⟨d0, d1, d2, d3, d4, d5, d6, d7, d8⟩ := s3.cells; go_simp; try (with_reducible rfl))
  simp only [Act.put, List.setIfInBounds_toArray, List.set_cons_zero, List.set_cons_succ]
  refine wpAnyH_take (i := 6) (v := ?_) (List.getElem?_toArray.trans rfl) (by kernel_rfl) (by kernel_rfl) (by kernel_rfl) (fun _ _ _ h => h) (Or.inl ⟨by rfl, ?_⟩) (by assumption) ?_
  rotate_left
  · (intro w hSw; obtain ⟨s1, s2, s3⟩ := hSw; obtain ⟨q0, q1, q2, q3⟩ := s1.cells; obtain ⟨c0, c1, c2, c3, c4, c5, c6, c7, c8⟩ := s2.cells; obtain ⟨d0, d1, d2, d3, d4, d5, d6, d7, d8⟩ := s3.cells; go_simp; try (with_reducible rfl))
  simp only [Act.put, List.setIfInBounds_toArray, List.set_cons_zero, List.set_cons_succ]
  refine wpAnyH_take (i := 7) (v := ?_) (List.getElem?_toArray.trans rfl) (by kernel_rfl) (by kernel_rfl) (by kernel_rfl) (fun _ _ _ h => h) (Or.inl ⟨by rfl, ?_⟩) (by assumption) ?_
  rotate_left
  · (intro w hSw; obtain ⟨s1, s2, s3⟩ := hSw; obtain ⟨q0, q1, q2, q3⟩ := s1.cells; obtain ⟨c0, c1, c2, c3, c4, c5, c6, c7, c8⟩ := s2.cells; obtain ⟨d0, d1, d2, d3, d4, d5, d6, d7, d8⟩ := s3.cells; go_simp; try (with_reducible rfl))
  simp only [Act.put, List.setIfInBounds_toArray, List.set_cons_zero, List.set_cons_succ]
  refine wpAnyH_take (i := 8) (v := ?_) (List.getElem?_toArray.trans rfl) (by kernel_rfl) (by kernel_rfl) (by kernel_rfl) (fun _ _ _ h => h) (Or.inl ⟨by rfl, ?_⟩) (by assumption) ?_
  rotate_left
  · (intro w hSw; obtain ⟨s1, s2, s3⟩ := hSw; obtain ⟨q0, q1, q2, q3⟩ := s1.cells; obtain ⟨c0, c1, c2, c3, c4, c5, c6, c7, c8⟩ := s2.cells; obtain ⟨d0, d1, d2, d3, d4, d5, d6, d7, d8⟩ := s3.cells; go_simp; try (with_reducible rfl))
  simp only [Act.put, List.setIfInBounds_toArray, List.set_cons_zero, List.set_cons_succ]
  refine wpAnyH_take (i := 9) (v := ?_) (List.getElem?_toArray.trans rfl) (by kernel_rfl) (by kernel_rfl) (by kernel_rfl) (fun _ _ _ h => h) (Or.inl ⟨by rfl, ?_⟩) (by assumption) ?_
  rotate_left
  · (intro w hSw; obtain ⟨s1, s2, s3⟩ := hSw; obtain ⟨q0, q1, q2, q3⟩ := s1.cells; obtain ⟨c0, c1, c2, c3, c4, c5, c6, c7, c8⟩ := s2.cells; obtain ⟨d0, d1, d2, d3, d4, d5, d6, d7, d8⟩ := s3.cells; go_simp; try (with_reducible rfl))
  simp only [Act.put, List.setIfInBounds_toArray, List.set_cons_zero, List.set_cons_succ]
  refine wpAnyH_take (i := 10) (v := ?_) (List.getElem?_toArray.trans rfl) (by kernel_rfl) (by kernel_rfl) (by kernel_rfl) (fun _ _ _ h => h) (Or.inl ⟨by rfl, ?_⟩) (by assumption) ?_
  rotate_left
  · (intro w hSw; obtain ⟨s1, s2, s3⟩ := hSw; obtain ⟨q0, q1, q2, q3⟩ := s1.cells; obtain ⟨c0, c1, c2, c3, c4, c5, c6, c7, c8⟩ := s2.cells; obtain ⟨d0, d1, d2, d3, d4, d5, d6, d7, d8⟩ := s3.cells; go_simp; try (with_reducible rfl))
  simp only [Act.put, List.setIfInBounds_toArray, List.set_cons_zero, List.set_cons_succ]
  refine wpAnyH_take (i := 11) (v := ?_) (List.getElem?_toArray.trans rfl) (by kernel_rfl) (by kernel_rfl) (by kernel_rfl) (fun _ _ _ h => h) (Or.inl ⟨by rfl, ?_⟩) (by assumption) ?_
  rotate_left
  · (intro w hSw; obtain ⟨s1, s2, s3⟩ := hSw; obtain ⟨q0, q1, q2, q3⟩ := s1.cells; obtain ⟨c0, c1, c2, c3, c4, c5, c6, c7, c8⟩ := s2.cells; obtain ⟨d0, d1, d2, d3, d4, d5, d6, d7, d8⟩ := s3.cells; go_simp; try (with_reducible rfl))
  simp only [Act.put, List.setIfInBounds_toArray, List.set_cons_zero, List.set_cons_succ]
  refine wpAnyH_take (i := 12) (v := ?_) (List.getElem?_toArray.trans rfl) (by kernel_rfl) (by kernel_rfl) (by kernel_rfl) (fun _ _ _ h => h) (Or.inl ⟨by rfl, ?_⟩) (by assumption) ?_
  rotate_left
  · (intro w hSw; obtain ⟨s1, s2, s3⟩ := hSw; obtain ⟨q0, q1, q2, q3⟩ := s1.cells; obtain ⟨c0, c1, c2, c3, c4, c5, c6, c7, c8⟩ := s2.cells; obtain ⟨d0, d1, d2, d3, d4, d5, d6, d7, d8⟩ := s3.cells; go_simp; try (with_reducible rfl))
  simp only [Act.put, List.setIfInBounds_toArray, List.set_cons_zero, List.set_cons_succ]
  refine wpAnyH_take (i := 14) (v := ?_) (List.getElem?_toArray.trans rfl) (by kernel_rfl) (by kernel_rfl) (by kernel_rfl) (fun _ _ _ h => h) (Or.inl ⟨by rfl, ?_⟩) (by assumption) ?_
  rotate_left
  · (intro w hSw; obtain ⟨s1, s2, s3⟩ := hSw; obtain ⟨q0, q1, q2, q3⟩ := s1.cells; obtain ⟨c0, c1, c2, c3, c4, c5, c6, c7, c8⟩ := s2.cells; obtain ⟨d0, d1, d2, d3, d4, d5, d6, d7, d8⟩ := s3.cells; go_simp; try (with_reducible rfl))
  simp only [Act.put, List.setIfInBounds_toArray, List.set_cons_zero, List.set_cons_succ]
  refine wpAnyH_ready (rs := [13]) (by kernel_rfl) (by simp) ?_
  refine AllReadyH.cons (List.getElem?_toArray.trans rfl) (fun K3 hK3 => ?_) AllReadyH.nil
  go_simp
  refine (cR _).mono ?_
  rintro e w5 ⟨rfl, hb5⟩
  dsimp only
  refine hK3.out _ _ ⟨(hS.drew.kept hb5), (hA.drew.kept hb5), (hB.drew.kept hb5)⟩ (fun hHeld3 => ?_)
  clear hK3 K3
  refine wpAnyH_ready (rs := [15]) (by kernel_rfl) (by simp) ?_
  refine AllReadyH.cons (List.getElem?_toArray.trans rfl) (fun K3 hK3 => ?_) AllReadyH.nil
  go_simp
  refine (cS _).mono ?_
  rintro e w6 ⟨rfl, hb6⟩
  dsimp only
  refine hK3.out _ _ ⟨((hS.drew.kept hb5).kept hb6), ((hA.drew.kept hb5).kept hb6), ((hB.drew.kept hb5).kept hb6)⟩ (fun hHeld3 => ?_)
  clear hK3 K3
  refine wpAnyH_take (i := 16) (v := ?_) (List.getElem?_toArray.trans rfl) (by kernel_rfl) (by kernel_rfl) (by kernel_rfl) (fun _ _ _ h => h) (Or.inl ⟨by rfl, ?_⟩) (by assumption) ?_
  rotate_left
  · (intro w hSw; obtain ⟨s1, s2, s3⟩ := hSw; obtain ⟨q0, q1, q2, q3⟩ := s1.cells; obtain ⟨c0, c1, c2, c3, c4, c5, c6, c7, c8⟩ := s2.cells; obtain ⟨d0, d1, d2, d3, d4, d5, d6, d7, d8⟩ := s3.cells; go_simp; try (with_reducible rfl))
  simp only [Act.put, List.setIfInBounds_toArray, List.set_cons_zero, List.set_cons_succ]
  refine wpAnyH_take (i := 17) (v := ?_) (List.getElem?_toArray.trans rfl) (by kernel_rfl) (by kernel_rfl) (by kernel_rfl) (fun _ _ _ h => h) (Or.inl ⟨by rfl, ?_⟩) (by assumption) ?_
  rotate_left
  · (intro w hSw; obtain ⟨s1, s2, s3⟩ := hSw; obtain ⟨q0, q1, q2, q3⟩ := s1.cells; obtain ⟨c0, c1, c2, c3, c4, c5, c6, c7, c8⟩ := s2.cells; obtain ⟨d0, d1, d2, d3, d4, d5, d6, d7, d8⟩ := s3.cells; go_simp; try (with_reducible rfl))
  simp only [Act.put, List.setIfInBounds_toArray, List.set_cons_zero, List.set_cons_succ]
  refine wpAnyH_take (i := 18) (v := ?_) (List.getElem?_toArray.trans rfl) (by kernel_rfl) (by kernel_rfl) (by kernel_rfl) (fun _ _ _ h => h) (Or.inl ⟨by rfl, ?_⟩) (by assumption) ?_
  rotate_left
  · (intro w hSw; obtain ⟨s1, s2, s3⟩ := hSw; obtain ⟨q0, q1, q2, q3⟩ := s1.cells; obtain ⟨c0, c1, c2, c3, c4, c5, c6, c7, c8⟩ := s2.cells; obtain ⟨d0, d1, d2, d3, d4, d5, d6, d7, d8⟩ := s3.cells; go_simp; try (with_reducible rfl))
  simp only [Act.put, List.setIfInBounds_toArray, List.set_cons_zero, List.set_cons_succ]
  refine wpAnyH_take (i := 19) (v := ?_) (List.getElem?_toArray.trans rfl) (by kernel_rfl) (by kernel_rfl) (by kernel_rfl) (fun _ _ _ h => h) (Or.inl ⟨by rfl, ?_⟩) (by assumption) ?_
  rotate_left
  · (intro w hSw; obtain ⟨s1, s2, s3⟩ := hSw; obtain ⟨q0, q1, q2, q3⟩ := s1.cells; obtain ⟨c0, c1, c2, c3, c4, c5, c6, c7, c8⟩ := s2.cells; obtain ⟨d0, d1, d2, d3, d4, d5, d6, d7, d8⟩ := s3.cells; go_simp; try (with_reducible rfl))
  simp only [Act.put, List.setIfInBounds_toArray, List.set_cons_zero, List.set_cons_succ]
  refine wpAnyH_take (i := 20) (v := ?_) (List.getElem?_toArray.trans rfl) (by kernel_rfl) (by kernel_rfl) (by kernel_rfl) (fun _ _ _ h => h) (Or.inl ⟨by rfl, ?_⟩) (by assumption) ?_
  rotate_left
  · (intro w hSw; obtain ⟨s1, s2, s3⟩ := hSw; obtain ⟨q0, q1, q2, q3⟩ := s1.cells; obtain ⟨c0, c1, c2, c3, c4, c5, c6, c7, c8⟩ := s2.cells; obtain ⟨d0, d1, d2, d3, d4, d5, d6, d7, d8⟩ := s3.cells; go_simp; try (with_reducible rfl))
  simp only [Act.put, List.setIfInBounds_toArray, List.set_cons_zero, List.set_cons_succ]
  refine wpAnyH_take (i := 22) (v := ?_) (List.getElem?_toArray.trans rfl) (by kernel_rfl) (by kernel_rfl) (by kernel_rfl) (fun _ _ _ h => h) (Or.inl ⟨by rfl, ?_⟩) (by assumption) ?_
  rotate_left
  · (intro w hSw; obtain ⟨s1, s2, s3⟩ := hSw; obtain ⟨q0, q1, q2, q3⟩ := s1.cells; obtain ⟨c0, c1, c2, c3, c4, c5, c6, c7, c8⟩ := s2.cells; obtain ⟨d0, d1, d2, d3, d4, d5, d6, d7, d8⟩ := s3.cells; go_simp; try (with_reducible rfl))
  simp only [Act.put, List.setIfInBounds_toArray, List.set_cons_zero, List.set_cons_succ]
  refine wpAnyH_take (i := 23) (v := ?_) (List.getElem?_toArray.trans rfl) (by kernel_rfl) (by kernel_rfl) (by kernel_rfl) (fun _ _ _ h => h) (Or.inl ⟨by rfl, ?_⟩) (by assumption) ?_
  rotate_left
  · (intro w hSw; obtain ⟨s1, s2, s3⟩ := hSw; obtain ⟨q0, q1, q2, q3⟩ := s1.cells; obtain ⟨c0, c1, c2, c3, c4, c5, c6, c7, c8⟩ := s2.cells; obtain ⟨d0, d1, d2, d3, d4, d5, d6, d7, d8⟩ := s3.cells; go_simp; try (with_reducible rfl))
  simp only [Act.put, List.setIfInBounds_toArray, List.set_cons_zero, List.set_cons_succ]
  refine wpAnyH_ready (rs := [21]) (by kernel_rfl) (by simp) ?_
  refine AllReadyH.cons (List.getElem?_toArray.trans rfl) (fun K3 hK3 => ?_) AllReadyH.nil
  go_simp
  refine (cO _).mono ?_
  rintro e w7 ⟨rfl, hb7⟩
  dsimp only
  refine hK3.out _ _ ⟨(((hS.drew.kept hb5).kept hb6).kept hb7), (((hA.drew.kept hb5).kept hb6).kept hb7), (((hB.drew.kept hb5).kept hb6).kept hb7)⟩ (fun hHeld3 => ?_)
  clear hK3 K3
  refine wpAnyH_ready (rs := [24]) (by kernel_rfl) (by simp) ?_
  refine AllReadyH.cons (List.getElem?_toArray.trans rfl) (fun K3 hK3 => ?_) AllReadyH.nil
  go_simp
  refine (cP _).mono ?_
  rintro e w8 ⟨rfl, hb8⟩
  dsimp only
  refine hK3.out _ _ ⟨((((hS.drew.kept hb5).kept hb6).kept hb7).kept hb8), ((((hA.drew.kept hb5).kept hb6).kept hb7).kept hb8), ((((hB.drew.kept hb5).kept hb6).kept hb7).kept hb8)⟩ (fun hHeld3 => ?_)
  clear hK3 K3
  refine wpAnyH_take (i := 25) (v := ?_) (List.getElem?_toArray.trans rfl) (by kernel_rfl) (by kernel_rfl) (by kernel_rfl) (fun _ _ _ h => h) (Or.inl ⟨by rfl, ?_⟩) (by assumption) ?_
  rotate_left
  · (intro w hSw; obtain ⟨s1, s2, s3⟩ := hSw; obtain ⟨q0, q1, q2, q3⟩ := s1.cells; obtain ⟨c0, c1, c2, c3, c4, c5, c6, c7, c8⟩ := s2.cells; obtain ⟨d0, d1, d2, d3, d4, d5, d6, d7, d8⟩ := s3.cells; go_simp; try (with_reducible rfl))
  simp only [Act.put, List.setIfInBounds_toArray, List.set_cons_zero, List.set_cons_succ]
  refine wpAnyH_take (i := 26) (v := ?_) (List.getElem?_toArray.trans rfl) (by kernel_rfl) (by kernel_rfl) (by kernel_rfl) (fun _ _ _ h => h) (Or.inl ⟨by rfl, ?_⟩) (by assumption) ?_
  rotate_left
  · (intro w hSw; obtain ⟨s1, s2, s3⟩ := hSw; obtain ⟨q0, q1, q2, q3⟩ := s1.cells; obtain ⟨c0, c1, c2, c3, c4, c5, c6, c7, c8⟩ := s2.cells; obtain ⟨d0, d1, d2, d3, d4, d5, d6, d7, d8⟩ := s3.cells; go_simp; try (with_reducible rfl))
  simp only [Act.put, List.setIfInBounds_toArray, List.set_cons_zero, List.set_cons_succ]
  refine wpAnyH_take (i := 27) (v := ?_) (List.getElem?_toArray.trans rfl) (by kernel_rfl) (by kernel_rfl) (by kernel_rfl) (fun _ _ _ h => h) (Or.inl ⟨by rfl, ?_⟩) (by assumption) ?_
  rotate_left
  · (intro w hSw; obtain ⟨s1, s2, s3⟩ := hSw; obtain ⟨q0, q1, q2, q3⟩ := s1.cells; obtain ⟨c0, c1, c2, c3, c4, c5, c6, c7, c8⟩ := s2.cells; obtain ⟨d0, d1, d2, d3, d4, d5, d6, d7, d8⟩ := s3.cells; go_simp; try (with_reducible rfl))
  simp only [Act.put, List.setIfInBounds_toArray, List.set_cons_zero, List.set_cons_succ]
  refine wpAnyH_done (by kernel_rfl) ?_ _
  go_wp2
  go_ret
  exact ⟨ret_bool (by simp), next (next (next (next k4 hb5) hb6) hb7) hb8⟩
end Go.Proofs.Ytgjigjjlkpkjeaa
