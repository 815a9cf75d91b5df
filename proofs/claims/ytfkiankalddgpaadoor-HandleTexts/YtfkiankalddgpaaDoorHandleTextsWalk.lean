/- 'HandleTexts': the walk. -/
import Derived.Test.YtfkiankalddgpaaDoorSmallHand
import Derived.Deep.RegionHeld3
namespace Go.Proofs.YtfkiankalddgpaaDoor
set_option maxRecDepth 100000
open Go.RowKit
set_option linter.unusedVariables false
set_option linter.unusedSimpArgs false
set_option maxHeartbeats 4000000

theorem texts_core (w : World) (T : Tab w) (I G J K : Int) (s : ByteArray) (R S E c : Int) (x : ByteArray)
    (c1 : ∀ w, Tab w → Calls Tryd.prog 15 #[.string s] w fun e' w' => e' = .returned (.tuple #[.agg #[.int .i64 R, .int .i64 S], .int .i64 E]) ∧ Below w.heap.size w w')
    (c2 : ∀ w, Calls Tryd.prog 16 #[.string s] w fun e' w' => e' = .returned (.tuple #[.agg #[.int .i64 R, .int .i64 S], .int .i64 E]) ∧ Below w.heap.size w w')
    (c3 : ∀ w, Tab w → Calls Tryd.prog 17 #[.agg #[.int .i64 I, .int .i64 G]] w fun e' w' => e' = .returned (.string x) ∧ Below w.heap.size w w')
    (c4 : ∀ w, Calls Tryd.prog 18 #[.agg #[.int .i64 I, .int .i64 G]] w fun e' w' => e' = .returned (.string x) ∧ Below w.heap.size w w')
    (c5 : ∀ w, Calls Tryd.prog 19 #[.agg #[.int .i64 I, .int .i64 G], .agg #[.int .i64 J, .int .i64 K]] w fun e' w' => e' = .returned (.int .i64 c) ∧ Below w.heap.size w w')
    (c6 : ∀ w, Calls Tryd.prog 20 #[.agg #[.int .i64 I, .int .i64 G], .agg #[.int .i64 J, .int .i64 K]] w fun e' w' => e' = .returned (.int .i64 c) ∧ Below w.heap.size w w') :
    Calls Tryd.prog 4 #[.agg #[.int .i64 I, .int .i64 G], .agg #[.int .i64 J, .int .i64 K], .string s] w fun e w' => e = .returned (.bool true) ∧ Below w.heap.size w w' := by
  have hb0 : Below w.heap.size w ((w.alloc (.cells #[.int .i64 I, .int .i64 G] 23)).alloc (.cells #[.int .i64 J, .int .i64 K] 23)) := ((Below.refl _ w).alloc (Nat.le_refl _) _).alloc (by simp) _
  obtain ⟨A0, B0⟩ := box_two w I G J K
  go_enter Tryd.func4, Tryd.ntmps4
  go_wp2_with (first
    | (go_at_call 8; with_reducible refine (small_any _ (T.kept hb0)).mono ?_; rintro e w1 ⟨rfl, hb1⟩; have A1 := A0.kept hb1; have B1 := B0.kept hb1; have k1 := next hb0 hb1)
    | (go_at_call 15; with_reducible refine (c1 _ (T.kept k1)).mono ?_; rintro e w2 ⟨rfl, hb2⟩; have A2 := (A1.kept hb2).more (.cells #[.int .i64 R, .int .i64 S] 23); have B2 := (B1.kept hb2).more (.cells #[.int .i64 R, .int .i64 S] 23); have k2 := next k1 hb2)
    | (go_at_call 16; with_reducible refine (c2 _).mono ?_; rintro e w3 ⟨rfl, hb3⟩; have A3 := (A2.kept hb3).more (.cells #[.int .i64 R, .int .i64 S] 23); have B3 := (B2.kept hb3).more (.cells #[.int .i64 R, .int .i64 S] 23); have X3 := ((box_new w2 R S).kept hb3).more (.cells #[.int .i64 R, .int .i64 S] 23); have Y3 := box_new w3 R S; have k3 := nextA k2 hb3))
  clear A0 B0 A1 B1 A2 B2 hb0 hb1 hb2 hb3 k1 k2
  have k6 := k3.alloc k3.size (.cells #[.int .i64 R, .int .i64 S] 23)
  refine wp_region_held_drew (S := fun w' => Box w' w.heap.size I G ∧ Box w' (w.heap.size + 1) J K ∧ Box w' w2.heap.size R S ∧ Box w' w3.heap.size R S) (by kernel_rfl) ⟨A3, B3, X3, Y3⟩ (fun hH => ?_)
  refine wpAnyH_take (i := 0) (v := ?_) (List.getElem?_toArray.trans rfl) (by kernel_rfl) (by kernel_rfl) (by kernel_rfl) (fun _ _ _ h => h) (Or.inl ⟨by rfl, ?_⟩) (by assumption) ?_
  rotate_left
  · (intro w hSw; obtain ⟨s1, s2, s3, s4⟩ := hSw; obtain ⟨c0, c1⟩ := s1.cells; obtain ⟨d0, d1⟩ := s2.cells; obtain ⟨e0, e1⟩ := s3.cells; obtain ⟨f0, f1⟩ := s4.cells; go_simp; try (with_reducible rfl))
  simp only [Act.put, List.setIfInBounds_toArray, List.set_cons_zero, List.set_cons_succ]
  refine wpAnyH_take (i := 1) (v := ?_) (List.getElem?_toArray.trans rfl) (by kernel_rfl) (by kernel_rfl) (by kernel_rfl) (fun _ _ _ h => h) (Or.inl ⟨by rfl, ?_⟩) (by assumption) ?_
  rotate_left
  · (intro w hSw; obtain ⟨s1, s2, s3, s4⟩ := hSw; obtain ⟨c0, c1⟩ := s1.cells; obtain ⟨d0, d1⟩ := s2.cells; obtain ⟨e0, e1⟩ := s3.cells; obtain ⟨f0, f1⟩ := s4.cells; go_simp; try (with_reducible rfl))
  simp only [Act.put, List.setIfInBounds_toArray, List.set_cons_zero, List.set_cons_succ]
  refine wpAnyH_take (i := 2) (v := ?_) (List.getElem?_toArray.trans rfl) (by kernel_rfl) (by kernel_rfl) (by kernel_rfl) (fun _ _ _ h => h) (Or.inl ⟨by rfl, ?_⟩) (by assumption) ?_
  rotate_left
  · (intro w hSw; obtain ⟨s1, s2, s3, s4⟩ := hSw; obtain ⟨c0, c1⟩ := s1.cells; obtain ⟨d0, d1⟩ := s2.cells; obtain ⟨e0, e1⟩ := s3.cells; obtain ⟨f0, f1⟩ := s4.cells; go_simp; try (with_reducible rfl))
  simp only [Act.put, List.setIfInBounds_toArray, List.set_cons_zero, List.set_cons_succ]
  refine wpAnyH_take (i := 4) (v := ?_) (List.getElem?_toArray.trans rfl) (by kernel_rfl) (by kernel_rfl) (by kernel_rfl) (fun _ _ _ h => h) (Or.inl ⟨by rfl, ?_⟩) (by assumption) ?_
  rotate_left
  · (intro w hSw; obtain ⟨s1, s2, s3, s4⟩ := hSw; obtain ⟨c0, c1⟩ := s1.cells; obtain ⟨d0, d1⟩ := s2.cells; obtain ⟨e0, e1⟩ := s3.cells; obtain ⟨f0, f1⟩ := s4.cells; go_simp; try (with_reducible rfl))
  simp only [Act.put, List.setIfInBounds_toArray, List.set_cons_zero, List.set_cons_succ]
  refine wpAnyH_ready (rs := [3]) (by kernel_rfl) (by simp) ?_
  refine AllReadyH.cons (List.getElem?_toArray.trans rfl) (fun K3 hK3 => ?_) AllReadyH.nil
  go_simp
  refine (c3 _ (T.kept k6.drew)).mono ?_
  rintro e w6 ⟨rfl, hb6⟩
  dsimp only
  refine hK3.out _ _ ⟨(A3.drew.kept hb6), (B3.drew.kept hb6), (X3.drew.kept hb6), (Y3.drew.kept hb6)⟩ (fun hHeld3 => ?_)
  clear hK3 K3
  refine wpAnyH_ready (rs := [5]) (by kernel_rfl) (by simp) ?_
  refine AllReadyH.cons (List.getElem?_toArray.trans rfl) (fun K3 hK3 => ?_) AllReadyH.nil
  go_simp
  refine (c4 _).mono ?_
  rintro e w7 ⟨rfl, hb7⟩
  dsimp only
  refine hK3.out _ _ ⟨((A3.drew.kept hb6).kept hb7), ((B3.drew.kept hb6).kept hb7), ((X3.drew.kept hb6).kept hb7), ((Y3.drew.kept hb6).kept hb7)⟩ (fun hHeld3 => ?_)
  clear hK3 K3
  refine wpAnyH_take (i := 6) (v := ?_) (List.getElem?_toArray.trans rfl) (by kernel_rfl) (by kernel_rfl) (by kernel_rfl) (fun _ _ _ h => h) (Or.inl ⟨by rfl, ?_⟩) (by assumption) ?_
  rotate_left
  · (intro w hSw; obtain ⟨s1, s2, s3, s4⟩ := hSw; obtain ⟨c0, c1⟩ := s1.cells; obtain ⟨d0, d1⟩ := s2.cells; obtain ⟨e0, e1⟩ := s3.cells; obtain ⟨f0, f1⟩ := s4.cells; go_simp; try (with_reducible rfl))
  simp only [Act.put, List.setIfInBounds_toArray, List.set_cons_zero, List.set_cons_succ]
  refine wpAnyH_take (i := 7) (v := ?_) (List.getElem?_toArray.trans rfl) (by kernel_rfl) (by kernel_rfl) (by kernel_rfl) (fun _ _ _ h => h) (Or.inl ⟨by rfl, ?_⟩) (by assumption) ?_
  rotate_left
  · (intro w hSw; obtain ⟨s1, s2, s3, s4⟩ := hSw; obtain ⟨c0, c1⟩ := s1.cells; obtain ⟨d0, d1⟩ := s2.cells; obtain ⟨e0, e1⟩ := s3.cells; obtain ⟨f0, f1⟩ := s4.cells; go_simp; try (with_reducible rfl))
  simp only [Act.put, List.setIfInBounds_toArray, List.set_cons_zero, List.set_cons_succ]
  refine wpAnyH_take (i := 8) (v := ?_) (List.getElem?_toArray.trans rfl) (by kernel_rfl) (by kernel_rfl) (by kernel_rfl) (fun _ _ _ h => h) (Or.inl ⟨by rfl, ?_⟩) (by assumption) ?_
  rotate_left
  · (intro w hSw; obtain ⟨s1, s2, s3, s4⟩ := hSw; obtain ⟨c0, c1⟩ := s1.cells; obtain ⟨d0, d1⟩ := s2.cells; obtain ⟨e0, e1⟩ := s3.cells; obtain ⟨f0, f1⟩ := s4.cells; go_simp; try (with_reducible rfl))
  simp only [Act.put, List.setIfInBounds_toArray, List.set_cons_zero, List.set_cons_succ]
  refine wpAnyH_take (i := 9) (v := ?_) (List.getElem?_toArray.trans rfl) (by kernel_rfl) (by kernel_rfl) (by kernel_rfl) (fun _ _ _ h => h) (Or.inl ⟨by rfl, ?_⟩) (by assumption) ?_
  rotate_left
  · (intro w hSw; obtain ⟨s1, s2, s3, s4⟩ := hSw; obtain ⟨c0, c1⟩ := s1.cells; obtain ⟨d0, d1⟩ := s2.cells; obtain ⟨e0, e1⟩ := s3.cells; obtain ⟨f0, f1⟩ := s4.cells; go_simp; try (with_reducible rfl))
  simp only [Act.put, List.setIfInBounds_toArray, List.set_cons_zero, List.set_cons_succ]
  refine wpAnyH_take (i := 10) (v := ?_) (List.getElem?_toArray.trans rfl) (by kernel_rfl) (by kernel_rfl) (by kernel_rfl) (fun _ _ _ h => h) (Or.inl ⟨by rfl, ?_⟩) (by assumption) ?_
  rotate_left
  · (intro w hSw; obtain ⟨s1, s2, s3, s4⟩ := hSw; obtain ⟨c0, c1⟩ := s1.cells; obtain ⟨d0, d1⟩ := s2.cells; obtain ⟨e0, e1⟩ := s3.cells; obtain ⟨f0, f1⟩ := s4.cells; go_simp; try (with_reducible rfl))
  simp only [Act.put, List.setIfInBounds_toArray, List.set_cons_zero, List.set_cons_succ]
  refine wpAnyH_take (i := 11) (v := ?_) (List.getElem?_toArray.trans rfl) (by kernel_rfl) (by kernel_rfl) (by kernel_rfl) (fun _ _ _ h => h) (Or.inl ⟨by rfl, ?_⟩) (by assumption) ?_
  rotate_left
  · (intro w hSw; obtain ⟨s1, s2, s3, s4⟩ := hSw; obtain ⟨c0, c1⟩ := s1.cells; obtain ⟨d0, d1⟩ := s2.cells; obtain ⟨e0, e1⟩ := s3.cells; obtain ⟨f0, f1⟩ := s4.cells; go_simp; try (with_reducible rfl))
  simp only [Act.put, List.setIfInBounds_toArray, List.set_cons_zero, List.set_cons_succ]
  refine wpAnyH_take (i := 12) (v := ?_) (List.getElem?_toArray.trans rfl) (by kernel_rfl) (by kernel_rfl) (by kernel_rfl) (fun _ _ _ h => h) (Or.inl ⟨by rfl, ?_⟩) (by assumption) ?_
  rotate_left
  · (intro w hSw; obtain ⟨s1, s2, s3, s4⟩ := hSw; obtain ⟨c0, c1⟩ := s1.cells; obtain ⟨d0, d1⟩ := s2.cells; obtain ⟨e0, e1⟩ := s3.cells; obtain ⟨f0, f1⟩ := s4.cells; go_simp; try (with_reducible rfl))
  simp only [Act.put, List.setIfInBounds_toArray, List.set_cons_zero, List.set_cons_succ]
  refine wpAnyH_take (i := 13) (v := ?_) (List.getElem?_toArray.trans rfl) (by kernel_rfl) (by kernel_rfl) (by kernel_rfl) (fun _ _ _ h => h) (Or.inl ⟨by rfl, ?_⟩) (by assumption) ?_
  rotate_left
  · (intro w hSw; obtain ⟨s1, s2, s3, s4⟩ := hSw; obtain ⟨c0, c1⟩ := s1.cells; obtain ⟨d0, d1⟩ := s2.cells; obtain ⟨e0, e1⟩ := s3.cells; obtain ⟨f0, f1⟩ := s4.cells; go_simp; try (with_reducible rfl))
  simp only [Act.put, List.setIfInBounds_toArray, List.set_cons_zero, List.set_cons_succ]
  refine wpAnyH_take (i := 14) (v := ?_) (List.getElem?_toArray.trans rfl) (by kernel_rfl) (by kernel_rfl) (by kernel_rfl) (fun _ _ _ h => h) (Or.inl ⟨by rfl, ?_⟩) (by assumption) ?_
  rotate_left
  · (intro w hSw; obtain ⟨s1, s2, s3, s4⟩ := hSw; obtain ⟨c0, c1⟩ := s1.cells; obtain ⟨d0, d1⟩ := s2.cells; obtain ⟨e0, e1⟩ := s3.cells; obtain ⟨f0, f1⟩ := s4.cells; go_simp; try (with_reducible rfl))
  simp only [Act.put, List.setIfInBounds_toArray, List.set_cons_zero, List.set_cons_succ]
  refine wpAnyH_take (i := 15) (v := ?_) (List.getElem?_toArray.trans rfl) (by kernel_rfl) (by kernel_rfl) (by kernel_rfl) (fun _ _ _ h => h) (Or.inl ⟨by rfl, ?_⟩) (by assumption) ?_
  rotate_left
  · (intro w hSw; obtain ⟨s1, s2, s3, s4⟩ := hSw; obtain ⟨c0, c1⟩ := s1.cells; obtain ⟨d0, d1⟩ := s2.cells; obtain ⟨e0, e1⟩ := s3.cells; obtain ⟨f0, f1⟩ := s4.cells; go_simp; try (with_reducible rfl))
  simp only [Act.put, List.setIfInBounds_toArray, List.set_cons_zero, List.set_cons_succ]
  refine wpAnyH_take (i := 16) (v := ?_) (List.getElem?_toArray.trans rfl) (by kernel_rfl) (by kernel_rfl) (by kernel_rfl) (fun _ _ _ h => h) (Or.inl ⟨by rfl, ?_⟩) (by assumption) ?_
  rotate_left
  · (intro w hSw; obtain ⟨s1, s2, s3, s4⟩ := hSw; obtain ⟨c0, c1⟩ := s1.cells; obtain ⟨d0, d1⟩ := s2.cells; obtain ⟨e0, e1⟩ := s3.cells; obtain ⟨f0, f1⟩ := s4.cells; go_simp; try (with_reducible rfl))
  simp only [Act.put, List.setIfInBounds_toArray, List.set_cons_zero, List.set_cons_succ]
  refine wpAnyH_take (i := 17) (v := ?_) (List.getElem?_toArray.trans rfl) (by kernel_rfl) (by kernel_rfl) (by kernel_rfl) (fun _ _ _ h => h) (Or.inl ⟨by rfl, ?_⟩) (by assumption) ?_
  rotate_left
  · (intro w hSw; obtain ⟨s1, s2, s3, s4⟩ := hSw; obtain ⟨c0, c1⟩ := s1.cells; obtain ⟨d0, d1⟩ := s2.cells; obtain ⟨e0, e1⟩ := s3.cells; obtain ⟨f0, f1⟩ := s4.cells; go_simp; try (with_reducible rfl))
  simp only [Act.put, List.setIfInBounds_toArray, List.set_cons_zero, List.set_cons_succ]
  refine wpAnyH_take (i := 18) (v := ?_) (List.getElem?_toArray.trans rfl) (by kernel_rfl) (by kernel_rfl) (by kernel_rfl) (fun _ _ _ h => h) (Or.inl ⟨by rfl, ?_⟩) (by assumption) ?_
  rotate_left
  · (intro w hSw; obtain ⟨s1, s2, s3, s4⟩ := hSw; obtain ⟨c0, c1⟩ := s1.cells; obtain ⟨d0, d1⟩ := s2.cells; obtain ⟨e0, e1⟩ := s3.cells; obtain ⟨f0, f1⟩ := s4.cells; go_simp; try (with_reducible rfl))
  simp only [Act.put, List.setIfInBounds_toArray, List.set_cons_zero, List.set_cons_succ]
  refine wpAnyH_take (i := 19) (v := ?_) (List.getElem?_toArray.trans rfl) (by kernel_rfl) (by kernel_rfl) (by kernel_rfl) (fun _ _ _ h => h) (Or.inl ⟨by rfl, ?_⟩) (by assumption) ?_
  rotate_left
  · (intro w hSw; obtain ⟨s1, s2, s3, s4⟩ := hSw; obtain ⟨c0, c1⟩ := s1.cells; obtain ⟨d0, d1⟩ := s2.cells; obtain ⟨e0, e1⟩ := s3.cells; obtain ⟨f0, f1⟩ := s4.cells; go_simp; try (with_reducible rfl))
  simp only [Act.put, List.setIfInBounds_toArray, List.set_cons_zero, List.set_cons_succ]
  refine wpAnyH_take (i := 20) (v := ?_) (List.getElem?_toArray.trans rfl) (by kernel_rfl) (by kernel_rfl) (by kernel_rfl) (fun _ _ _ h => h) (Or.inl ⟨by rfl, ?_⟩) (by assumption) ?_
  rotate_left
  · (intro w hSw; obtain ⟨s1, s2, s3, s4⟩ := hSw; obtain ⟨c0, c1⟩ := s1.cells; obtain ⟨d0, d1⟩ := s2.cells; obtain ⟨e0, e1⟩ := s3.cells; obtain ⟨f0, f1⟩ := s4.cells; go_simp; try (with_reducible rfl))
  simp only [Act.put, List.setIfInBounds_toArray, List.set_cons_zero, List.set_cons_succ]
  refine wpAnyH_take (i := 22) (v := ?_) (List.getElem?_toArray.trans rfl) (by kernel_rfl) (by kernel_rfl) (by kernel_rfl) (fun _ _ _ h => h) (Or.inl ⟨by rfl, ?_⟩) (by assumption) ?_
  rotate_left
  · (intro w hSw; obtain ⟨s1, s2, s3, s4⟩ := hSw; obtain ⟨c0, c1⟩ := s1.cells; obtain ⟨d0, d1⟩ := s2.cells; obtain ⟨e0, e1⟩ := s3.cells; obtain ⟨f0, f1⟩ := s4.cells; go_simp; try (with_reducible rfl))
  simp only [Act.put, List.setIfInBounds_toArray, List.set_cons_zero, List.set_cons_succ]
  refine wpAnyH_take (i := 23) (v := ?_) (List.getElem?_toArray.trans rfl) (by kernel_rfl) (by kernel_rfl) (by kernel_rfl) (fun _ _ _ h => h) (Or.inl ⟨by rfl, ?_⟩) (by assumption) ?_
  rotate_left
  · (intro w hSw; obtain ⟨s1, s2, s3, s4⟩ := hSw; obtain ⟨c0, c1⟩ := s1.cells; obtain ⟨d0, d1⟩ := s2.cells; obtain ⟨e0, e1⟩ := s3.cells; obtain ⟨f0, f1⟩ := s4.cells; go_simp; try (with_reducible rfl))
  simp only [Act.put, List.setIfInBounds_toArray, List.set_cons_zero, List.set_cons_succ]
  refine wpAnyH_ready (rs := [21]) (by kernel_rfl) (by simp) ?_
  refine AllReadyH.cons (List.getElem?_toArray.trans rfl) (fun K3 hK3 => ?_) AllReadyH.nil
  go_simp
  refine (c5 _).mono ?_
  rintro e w8 ⟨rfl, hb8⟩
  dsimp only
  refine hK3.out _ _ ⟨(((A3.drew.kept hb6).kept hb7).kept hb8), (((B3.drew.kept hb6).kept hb7).kept hb8), (((X3.drew.kept hb6).kept hb7).kept hb8), (((Y3.drew.kept hb6).kept hb7).kept hb8)⟩ (fun hHeld3 => ?_)
  clear hK3 K3
  refine wpAnyH_ready (rs := [24]) (by kernel_rfl) (by simp) ?_
  refine AllReadyH.cons (List.getElem?_toArray.trans rfl) (fun K3 hK3 => ?_) AllReadyH.nil
  go_simp
  refine (c6 _).mono ?_
  rintro e w9 ⟨rfl, hb9⟩
  dsimp only
  refine hK3.out _ _ ⟨((((A3.drew.kept hb6).kept hb7).kept hb8).kept hb9), ((((B3.drew.kept hb6).kept hb7).kept hb8).kept hb9), ((((X3.drew.kept hb6).kept hb7).kept hb8).kept hb9), ((((Y3.drew.kept hb6).kept hb7).kept hb8).kept hb9)⟩ (fun hHeld3 => ?_)
  clear hK3 K3
  refine wpAnyH_take (i := 25) (v := ?_) (List.getElem?_toArray.trans rfl) (by kernel_rfl) (by kernel_rfl) (by kernel_rfl) (fun _ _ _ h => h) (Or.inl ⟨by rfl, ?_⟩) (by assumption) ?_
  rotate_left
  · (intro w hSw; obtain ⟨s1, s2, s3, s4⟩ := hSw; obtain ⟨c0, c1⟩ := s1.cells; obtain ⟨d0, d1⟩ := s2.cells; obtain ⟨e0, e1⟩ := s3.cells; obtain ⟨f0, f1⟩ := s4.cells; go_simp; try (with_reducible rfl))
  simp only [Act.put, List.setIfInBounds_toArray, List.set_cons_zero, List.set_cons_succ]
  refine wpAnyH_take (i := 26) (v := ?_) (List.getElem?_toArray.trans rfl) (by kernel_rfl) (by kernel_rfl) (by kernel_rfl) (fun _ _ _ h => h) (Or.inl ⟨by rfl, ?_⟩) (by assumption) ?_
  rotate_left
  · (intro w hSw; obtain ⟨s1, s2, s3, s4⟩ := hSw; obtain ⟨c0, c1⟩ := s1.cells; obtain ⟨d0, d1⟩ := s2.cells; obtain ⟨e0, e1⟩ := s3.cells; obtain ⟨f0, f1⟩ := s4.cells; go_simp; try (with_reducible rfl))
  simp only [Act.put, List.setIfInBounds_toArray, List.set_cons_zero, List.set_cons_succ]
  refine wpAnyH_take (i := 27) (v := ?_) (List.getElem?_toArray.trans rfl) (by kernel_rfl) (by kernel_rfl) (by kernel_rfl) (fun _ _ _ h => h) (Or.inl ⟨by rfl, ?_⟩) (by assumption) ?_
  rotate_left
  · (intro w hSw; obtain ⟨s1, s2, s3, s4⟩ := hSw; obtain ⟨c0, c1⟩ := s1.cells; obtain ⟨d0, d1⟩ := s2.cells; obtain ⟨e0, e1⟩ := s3.cells; obtain ⟨f0, f1⟩ := s4.cells; go_simp; try (with_reducible rfl))
  simp only [Act.put, List.setIfInBounds_toArray, List.set_cons_zero, List.set_cons_succ]
  refine wpAnyH_done (by kernel_rfl) ?_ _
  go_wp2
  go_ret
  exact ⟨ret_bool (by simp), next (next (next (next k6.drew hb6) hb7) hb8) hb9⟩
theorem handleTexts_walk (w : World) (T : Tab w) (I G J K : Int) (s : ByteArray) (hs : s.size ≤ maxLen) :
    Calls Tryd.prog 4 #[.agg #[.int .i64 I, .int .i64 G], .agg #[.int .i64 J, .int .i64 K], .string s] w fun e w' => e = .returned (.bool true) ∧ Below w.heap.size w w' := by
  have hs' : s.size ≤ 9223372036854775807 := by unfold maxLen at hs; omega
  exact texts_core w T I G J K s _ _ _ _ _ (fun w => hParse_any s w hs') (fun w => refParse_any s w hs') (hText_any I G) (refText_any I G) (hCompare_any I G J K) (refCompare_any I G J K)
end Go.Proofs.YtfkiankalddgpaaDoor
