/- 'HandleCodes': the walk. -/
import Derived.Test.YtfkiankalddgpaaDoorSmallHand
import Derived.Deep.RegionHeld3
namespace Go.Proofs.YtfkiankalddgpaaDoor
set_option maxRecDepth 100000
open Go.RowKit
set_option linter.unusedVariables false
set_option linter.unusedSimpArgs false
set_option maxHeartbeats 4000000

theorem codes_core (w : World) (T : Tab w) (I G n : Int) (a e P Q : Int) (b r : Bool)
    (c1 : ∀ w, Calls Tryd.prog 9 #[.agg #[.int .i64 I, .int .i64 G]] w fun e' w' => e' = .returned (.tuple #[.int .i64 a, .int .i64 e]) ∧ Below w.heap.size w w')
    (c2 : ∀ w, Calls Tryd.prog 10 #[.agg #[.int .i64 I, .int .i64 G]] w fun e' w' => e' = .returned (.tuple #[.int .i64 a, .int .i64 e]) ∧ Below w.heap.size w w')
    (c3 : ∀ w, Calls Tryd.prog 11 #[.int .i64 n] w fun e' w' => e' = .returned (.tuple #[.agg #[.int .i64 P, .int .i64 Q], .bool b]) ∧ Below w.heap.size w w')
    (c4 : ∀ w, Calls Tryd.prog 12 #[.int .i64 n] w fun e' w' => e' = .returned (.tuple #[.agg #[.int .i64 P, .int .i64 Q], .bool b]) ∧ Below w.heap.size w w')
    (c5 : ∀ w, Calls Tryd.prog 13 #[.agg #[.int .i64 I, .int .i64 G]] w fun e' w' => e' = .returned (.bool r) ∧ Below w.heap.size w w')
    (c6 : ∀ w, Calls Tryd.prog 14 #[.agg #[.int .i64 I, .int .i64 G]] w fun e' w' => e' = .returned (.bool r) ∧ Below w.heap.size w w') :
    Calls Tryd.prog 3 #[.agg #[.int .i64 I, .int .i64 G], .int .i64 n] w fun e w' => e = .returned (.bool true) ∧ Below w.heap.size w w' := by
  have hb0 : Below w.heap.size w (w.alloc (.cells #[.int .i64 I, .int .i64 G] 23)) := (Below.refl _ w).alloc (Nat.le_refl _) _
  have A0 := box_new w I G
  go_enter Tryd.func3, Tryd.ntmps3
  go_wp2_with (first
    | (go_at_call 8; with_reducible refine (small_any _ (T.kept hb0)).mono ?_; rintro e w1 ⟨rfl, hb1⟩; have A1 := A0.kept hb1; have k1 := next hb0 hb1; obtain ⟨p0, p1⟩ := A1.cells)
    | (go_at_call 9; with_reducible refine (c1 _).mono ?_; rintro e w2 ⟨rfl, hb2⟩; have A2 := A1.kept hb2; have k2 := next k1 hb2; obtain ⟨q0, q1⟩ := A2.cells)
    | (go_at_call 10; with_reducible refine (c2 _).mono ?_; rintro e w3 ⟨rfl, hb3⟩; have A3 := A2.kept hb3; have k3 := next k2 hb3)
    | (go_at_call 11; with_reducible refine (c3 _).mono ?_; rintro e w4 ⟨rfl, hb4⟩; have A4 := (A3.kept hb4).more (.cells #[.int .i64 P, .int .i64 Q] 23); have k4 := next k3 hb4)
    | (go_at_call 12; with_reducible refine (c4 _).mono ?_; rintro e w5 ⟨rfl, hb5⟩; have A5 := (A4.kept hb5).more (.cells #[.int .i64 P, .int .i64 Q] 23); have X5 := ((box_new w4 P Q).kept hb5).more (.cells #[.int .i64 P, .int .i64 Q] 23); have Y5 := box_new w5 P Q; have k5 := nextA k4 hb5))
  clear A0 A1 A2 A3 A4 p0 p1 q0 q1 hb0 hb1 hb2 hb3 hb4 hb5 k1 k2 k3 k4
  have k6 := k5.alloc k5.size (.cells #[.int .i64 P, .int .i64 Q] 23)
  refine wp_region_held_drew (S := fun w' => Box w' w.heap.size I G ∧ Box w' w4.heap.size P Q ∧ Box w' w5.heap.size P Q) (by kernel_rfl) ⟨A5, X5, Y5⟩ (fun hH => ?_)
  refine wpAnyH_take (i := 0) (v := ?_) (List.getElem?_toArray.trans rfl) (by kernel_rfl) (by kernel_rfl) (by kernel_rfl) (fun _ _ _ h => h) (Or.inl ⟨by rfl, ?_⟩) (by assumption) ?_
  rotate_left
  · (intro w hSw; obtain ⟨s1, s2, s3⟩ := hSw; obtain ⟨c0, c1⟩ := s1.cells; obtain ⟨d0, d1⟩ := s2.cells; obtain ⟨e0, e1⟩ := s3.cells; go_simp; try (with_reducible rfl))
  simp only [Act.put, List.setIfInBounds_toArray, List.set_cons_zero, List.set_cons_succ]
  refine wpAnyH_take (i := 1) (v := ?_) (List.getElem?_toArray.trans rfl) (by kernel_rfl) (by kernel_rfl) (by kernel_rfl) (fun _ _ _ h => h) (Or.inl ⟨by rfl, ?_⟩) (by assumption) ?_
  rotate_left
  · (intro w hSw; obtain ⟨s1, s2, s3⟩ := hSw; obtain ⟨c0, c1⟩ := s1.cells; obtain ⟨d0, d1⟩ := s2.cells; obtain ⟨e0, e1⟩ := s3.cells; go_simp; try (with_reducible rfl))
  simp only [Act.put, List.setIfInBounds_toArray, List.set_cons_zero, List.set_cons_succ]
  refine wpAnyH_take (i := 2) (v := ?_) (List.getElem?_toArray.trans rfl) (by kernel_rfl) (by kernel_rfl) (by kernel_rfl) (fun _ _ _ h => h) (Or.inl ⟨by rfl, ?_⟩) (by assumption) ?_
  rotate_left
  · (intro w hSw; obtain ⟨s1, s2, s3⟩ := hSw; obtain ⟨c0, c1⟩ := s1.cells; obtain ⟨d0, d1⟩ := s2.cells; obtain ⟨e0, e1⟩ := s3.cells; go_simp; try (with_reducible rfl))
  simp only [Act.put, List.setIfInBounds_toArray, List.set_cons_zero, List.set_cons_succ]
  refine wpAnyH_take (i := 3) (v := ?_) (List.getElem?_toArray.trans rfl) (by kernel_rfl) (by kernel_rfl) (by kernel_rfl) (fun _ _ _ h => h) (Or.inl ⟨by rfl, ?_⟩) (by assumption) ?_
  rotate_left
  · (intro w hSw; obtain ⟨s1, s2, s3⟩ := hSw; obtain ⟨c0, c1⟩ := s1.cells; obtain ⟨d0, d1⟩ := s2.cells; obtain ⟨e0, e1⟩ := s3.cells; go_simp; try (with_reducible rfl))
  simp only [Act.put, List.setIfInBounds_toArray, List.set_cons_zero, List.set_cons_succ]
  refine wpAnyH_take (i := 4) (v := ?_) (List.getElem?_toArray.trans rfl) (by kernel_rfl) (by kernel_rfl) (by kernel_rfl) (fun _ _ _ h => h) (Or.inl ⟨by rfl, ?_⟩) (by assumption) ?_
  rotate_left
  · (intro w hSw; obtain ⟨s1, s2, s3⟩ := hSw; obtain ⟨c0, c1⟩ := s1.cells; obtain ⟨d0, d1⟩ := s2.cells; obtain ⟨e0, e1⟩ := s3.cells; go_simp; try (with_reducible rfl))
  simp only [Act.put, List.setIfInBounds_toArray, List.set_cons_zero, List.set_cons_succ]
  refine wpAnyH_take (i := 5) (v := ?_) (List.getElem?_toArray.trans rfl) (by kernel_rfl) (by kernel_rfl) (by kernel_rfl) (fun _ _ _ h => h) (Or.inl ⟨by rfl, ?_⟩) (by assumption) ?_
  rotate_left
  · (intro w hSw; obtain ⟨s1, s2, s3⟩ := hSw; obtain ⟨c0, c1⟩ := s1.cells; obtain ⟨d0, d1⟩ := s2.cells; obtain ⟨e0, e1⟩ := s3.cells; go_simp; try (with_reducible rfl))
  simp only [Act.put, List.setIfInBounds_toArray, List.set_cons_zero, List.set_cons_succ]
  refine wpAnyH_take (i := 6) (v := ?_) (List.getElem?_toArray.trans rfl) (by kernel_rfl) (by kernel_rfl) (by kernel_rfl) (fun _ _ _ h => h) (Or.inl ⟨by rfl, ?_⟩) (by assumption) ?_
  rotate_left
  · (intro w hSw; obtain ⟨s1, s2, s3⟩ := hSw; obtain ⟨c0, c1⟩ := s1.cells; obtain ⟨d0, d1⟩ := s2.cells; obtain ⟨e0, e1⟩ := s3.cells; go_simp; try (with_reducible rfl))
  simp only [Act.put, List.setIfInBounds_toArray, List.set_cons_zero, List.set_cons_succ]
  refine wpAnyH_take (i := 7) (v := ?_) (List.getElem?_toArray.trans rfl) (by kernel_rfl) (by kernel_rfl) (by kernel_rfl) (fun _ _ _ h => h) (Or.inl ⟨by rfl, ?_⟩) (by assumption) ?_
  rotate_left
  · (intro w hSw; obtain ⟨s1, s2, s3⟩ := hSw; obtain ⟨c0, c1⟩ := s1.cells; obtain ⟨d0, d1⟩ := s2.cells; obtain ⟨e0, e1⟩ := s3.cells; go_simp; try (with_reducible rfl))
  simp only [Act.put, List.setIfInBounds_toArray, List.set_cons_zero, List.set_cons_succ]
  refine wpAnyH_take (i := 8) (v := ?_) (List.getElem?_toArray.trans rfl) (by kernel_rfl) (by kernel_rfl) (by kernel_rfl) (fun _ _ _ h => h) (Or.inl ⟨by rfl, ?_⟩) (by assumption) ?_
  rotate_left
  · (intro w hSw; obtain ⟨s1, s2, s3⟩ := hSw; obtain ⟨c0, c1⟩ := s1.cells; obtain ⟨d0, d1⟩ := s2.cells; obtain ⟨e0, e1⟩ := s3.cells; go_simp; try (with_reducible rfl))
  simp only [Act.put, List.setIfInBounds_toArray, List.set_cons_zero, List.set_cons_succ]
  refine wpAnyH_take (i := 9) (v := ?_) (List.getElem?_toArray.trans rfl) (by kernel_rfl) (by kernel_rfl) (by kernel_rfl) (fun _ _ _ h => h) (Or.inl ⟨by rfl, ?_⟩) (by assumption) ?_
  rotate_left
  · (intro w hSw; obtain ⟨s1, s2, s3⟩ := hSw; obtain ⟨c0, c1⟩ := s1.cells; obtain ⟨d0, d1⟩ := s2.cells; obtain ⟨e0, e1⟩ := s3.cells; go_simp; try (with_reducible rfl))
  simp only [Act.put, List.setIfInBounds_toArray, List.set_cons_zero, List.set_cons_succ]
  refine wpAnyH_take (i := 10) (v := ?_) (List.getElem?_toArray.trans rfl) (by kernel_rfl) (by kernel_rfl) (by kernel_rfl) (fun _ _ _ h => h) (Or.inl ⟨by rfl, ?_⟩) (by assumption) ?_
  rotate_left
  · (intro w hSw; obtain ⟨s1, s2, s3⟩ := hSw; obtain ⟨c0, c1⟩ := s1.cells; obtain ⟨d0, d1⟩ := s2.cells; obtain ⟨e0, e1⟩ := s3.cells; go_simp; try (with_reducible rfl))
  simp only [Act.put, List.setIfInBounds_toArray, List.set_cons_zero, List.set_cons_succ]
  refine wpAnyH_take (i := 11) (v := ?_) (List.getElem?_toArray.trans rfl) (by kernel_rfl) (by kernel_rfl) (by kernel_rfl) (fun _ _ _ h => h) (Or.inl ⟨by rfl, ?_⟩) (by assumption) ?_
  rotate_left
  · (intro w hSw; obtain ⟨s1, s2, s3⟩ := hSw; obtain ⟨c0, c1⟩ := s1.cells; obtain ⟨d0, d1⟩ := s2.cells; obtain ⟨e0, e1⟩ := s3.cells; go_simp; try (with_reducible rfl))
  simp only [Act.put, List.setIfInBounds_toArray, List.set_cons_zero, List.set_cons_succ]
  refine wpAnyH_take (i := 12) (v := ?_) (List.getElem?_toArray.trans rfl) (by kernel_rfl) (by kernel_rfl) (by kernel_rfl) (fun _ _ _ h => h) (Or.inl ⟨by rfl, ?_⟩) (by assumption) ?_
  rotate_left
  · (intro w hSw; obtain ⟨s1, s2, s3⟩ := hSw; obtain ⟨c0, c1⟩ := s1.cells; obtain ⟨d0, d1⟩ := s2.cells; obtain ⟨e0, e1⟩ := s3.cells; go_simp; try (with_reducible rfl))
  simp only [Act.put, List.setIfInBounds_toArray, List.set_cons_zero, List.set_cons_succ]
  refine wpAnyH_take (i := 13) (v := ?_) (List.getElem?_toArray.trans rfl) (by kernel_rfl) (by kernel_rfl) (by kernel_rfl) (fun _ _ _ h => h) (Or.inl ⟨by rfl, ?_⟩) (by assumption) ?_
  rotate_left
  · (intro w hSw; obtain ⟨s1, s2, s3⟩ := hSw; obtain ⟨c0, c1⟩ := s1.cells; obtain ⟨d0, d1⟩ := s2.cells; obtain ⟨e0, e1⟩ := s3.cells; go_simp; try (with_reducible rfl))
  simp only [Act.put, List.setIfInBounds_toArray, List.set_cons_zero, List.set_cons_succ]
  refine wpAnyH_take (i := 14) (v := ?_) (List.getElem?_toArray.trans rfl) (by kernel_rfl) (by kernel_rfl) (by kernel_rfl) (fun _ _ _ h => h) (Or.inl ⟨by rfl, ?_⟩) (by assumption) ?_
  rotate_left
  · (intro w hSw; obtain ⟨s1, s2, s3⟩ := hSw; obtain ⟨c0, c1⟩ := s1.cells; obtain ⟨d0, d1⟩ := s2.cells; obtain ⟨e0, e1⟩ := s3.cells; go_simp; try (with_reducible rfl))
  simp only [Act.put, List.setIfInBounds_toArray, List.set_cons_zero, List.set_cons_succ]
  refine wpAnyH_take (i := 15) (v := ?_) (List.getElem?_toArray.trans rfl) (by kernel_rfl) (by kernel_rfl) (by kernel_rfl) (fun _ _ _ h => h) (Or.inl ⟨by rfl, ?_⟩) (by assumption) ?_
  rotate_left
  · (intro w hSw; obtain ⟨s1, s2, s3⟩ := hSw; obtain ⟨c0, c1⟩ := s1.cells; obtain ⟨d0, d1⟩ := s2.cells; obtain ⟨e0, e1⟩ := s3.cells; go_simp; try (with_reducible rfl))
  simp only [Act.put, List.setIfInBounds_toArray, List.set_cons_zero, List.set_cons_succ]
  refine wpAnyH_take (i := 16) (v := ?_) (List.getElem?_toArray.trans rfl) (by kernel_rfl) (by kernel_rfl) (by kernel_rfl) (fun _ _ _ h => h) (Or.inl ⟨by rfl, ?_⟩) (by assumption) ?_
  rotate_left
  · (intro w hSw; obtain ⟨s1, s2, s3⟩ := hSw; obtain ⟨c0, c1⟩ := s1.cells; obtain ⟨d0, d1⟩ := s2.cells; obtain ⟨e0, e1⟩ := s3.cells; go_simp; try (with_reducible rfl))
  simp only [Act.put, List.setIfInBounds_toArray, List.set_cons_zero, List.set_cons_succ]
  refine wpAnyH_take (i := 17) (v := ?_) (List.getElem?_toArray.trans rfl) (by kernel_rfl) (by kernel_rfl) (by kernel_rfl) (fun _ _ _ h => h) (Or.inl ⟨by rfl, ?_⟩) (by assumption) ?_
  rotate_left
  · (intro w hSw; obtain ⟨s1, s2, s3⟩ := hSw; obtain ⟨c0, c1⟩ := s1.cells; obtain ⟨d0, d1⟩ := s2.cells; obtain ⟨e0, e1⟩ := s3.cells; go_simp; try (with_reducible rfl))
  simp only [Act.put, List.setIfInBounds_toArray, List.set_cons_zero, List.set_cons_succ]
  refine wpAnyH_take (i := 18) (v := ?_) (List.getElem?_toArray.trans rfl) (by kernel_rfl) (by kernel_rfl) (by kernel_rfl) (fun _ _ _ h => h) (Or.inl ⟨by rfl, ?_⟩) (by assumption) ?_
  rotate_left
  · (intro w hSw; obtain ⟨s1, s2, s3⟩ := hSw; obtain ⟨c0, c1⟩ := s1.cells; obtain ⟨d0, d1⟩ := s2.cells; obtain ⟨e0, e1⟩ := s3.cells; go_simp; try (with_reducible rfl))
  simp only [Act.put, List.setIfInBounds_toArray, List.set_cons_zero, List.set_cons_succ]
  refine wpAnyH_take (i := 19) (v := ?_) (List.getElem?_toArray.trans rfl) (by kernel_rfl) (by kernel_rfl) (by kernel_rfl) (fun _ _ _ h => h) (Or.inl ⟨by rfl, ?_⟩) (by assumption) ?_
  rotate_left
  · (intro w hSw; obtain ⟨s1, s2, s3⟩ := hSw; obtain ⟨c0, c1⟩ := s1.cells; obtain ⟨d0, d1⟩ := s2.cells; obtain ⟨e0, e1⟩ := s3.cells; go_simp; try (with_reducible rfl))
  simp only [Act.put, List.setIfInBounds_toArray, List.set_cons_zero, List.set_cons_succ]
  refine wpAnyH_take (i := 20) (v := ?_) (List.getElem?_toArray.trans rfl) (by kernel_rfl) (by kernel_rfl) (by kernel_rfl) (fun _ _ _ h => h) (Or.inl ⟨by rfl, ?_⟩) (by assumption) ?_
  rotate_left
  · (intro w hSw; obtain ⟨s1, s2, s3⟩ := hSw; obtain ⟨c0, c1⟩ := s1.cells; obtain ⟨d0, d1⟩ := s2.cells; obtain ⟨e0, e1⟩ := s3.cells; go_simp; try (with_reducible rfl))
  simp only [Act.put, List.setIfInBounds_toArray, List.set_cons_zero, List.set_cons_succ]
  refine wpAnyH_take (i := 21) (v := ?_) (List.getElem?_toArray.trans rfl) (by kernel_rfl) (by kernel_rfl) (by kernel_rfl) (fun _ _ _ h => h) (Or.inl ⟨by rfl, ?_⟩) (by assumption) ?_
  rotate_left
  · (intro w hSw; obtain ⟨s1, s2, s3⟩ := hSw; obtain ⟨c0, c1⟩ := s1.cells; obtain ⟨d0, d1⟩ := s2.cells; obtain ⟨e0, e1⟩ := s3.cells; go_simp; try (with_reducible rfl))
  simp only [Act.put, List.setIfInBounds_toArray, List.set_cons_zero, List.set_cons_succ]
  refine wpAnyH_take (i := 22) (v := ?_) (List.getElem?_toArray.trans rfl) (by kernel_rfl) (by kernel_rfl) (by kernel_rfl) (fun _ _ _ h => h) (Or.inl ⟨by rfl, ?_⟩) (by assumption) ?_
  rotate_left
  · (intro w hSw; obtain ⟨s1, s2, s3⟩ := hSw; obtain ⟨c0, c1⟩ := s1.cells; obtain ⟨d0, d1⟩ := s2.cells; obtain ⟨e0, e1⟩ := s3.cells; go_simp; try (with_reducible rfl))
  simp only [Act.put, List.setIfInBounds_toArray, List.set_cons_zero, List.set_cons_succ]
  refine wpAnyH_take (i := 24) (v := ?_) (List.getElem?_toArray.trans rfl) (by kernel_rfl) (by kernel_rfl) (by kernel_rfl) (fun _ _ _ h => h) (Or.inl ⟨by rfl, ?_⟩) (by assumption) ?_
  rotate_left
  · (intro w hSw; obtain ⟨s1, s2, s3⟩ := hSw; obtain ⟨c0, c1⟩ := s1.cells; obtain ⟨d0, d1⟩ := s2.cells; obtain ⟨e0, e1⟩ := s3.cells; go_simp; try (with_reducible rfl))
  simp only [Act.put, List.setIfInBounds_toArray, List.set_cons_zero, List.set_cons_succ]
  refine wpAnyH_ready (rs := [23]) (by kernel_rfl) (by simp) ?_
  refine AllReadyH.cons (List.getElem?_toArray.trans rfl) (fun K3 hK3 => ?_) AllReadyH.nil
  go_simp
  refine (c5 _).mono ?_
  rintro e w6 ⟨rfl, hb6⟩
  dsimp only
  refine hK3.out _ _ ⟨A5.drew.kept hb6, X5.drew.kept hb6, Y5.drew.kept hb6⟩ (fun hHeld3 => ?_)
  clear hK3 K3
  refine wpAnyH_ready (rs := [25]) (by kernel_rfl) (by simp) ?_
  refine AllReadyH.cons (List.getElem?_toArray.trans rfl) (fun K3 hK3 => ?_) AllReadyH.nil
  go_simp
  refine (c6 _).mono ?_
  rintro e w7 ⟨rfl, hb7⟩
  dsimp only
  refine hK3.out _ _ ⟨(A5.drew.kept hb6).kept hb7, (X5.drew.kept hb6).kept hb7, (Y5.drew.kept hb6).kept hb7⟩ (fun hHeld3 => ?_)
  clear hK3 K3
  refine wpAnyH_take (i := 26) (v := ?_) (List.getElem?_toArray.trans rfl) (by kernel_rfl) (by kernel_rfl) (by kernel_rfl) (fun _ _ _ h => h) (Or.inl ⟨by rfl, ?_⟩) (by assumption) ?_
  rotate_left
  · (intro w hSw; obtain ⟨s1, s2, s3⟩ := hSw; obtain ⟨c0, c1⟩ := s1.cells; obtain ⟨d0, d1⟩ := s2.cells; obtain ⟨e0, e1⟩ := s3.cells; go_simp; try (with_reducible rfl))
  simp only [Act.put, List.setIfInBounds_toArray, List.set_cons_zero, List.set_cons_succ]
  refine wpAnyH_take (i := 27) (v := ?_) (List.getElem?_toArray.trans rfl) (by kernel_rfl) (by kernel_rfl) (by kernel_rfl) (fun _ _ _ h => h) (Or.inl ⟨by rfl, ?_⟩) (by assumption) ?_
  rotate_left
  · (intro w hSw; obtain ⟨s1, s2, s3⟩ := hSw; obtain ⟨c0, c1⟩ := s1.cells; obtain ⟨d0, d1⟩ := s2.cells; obtain ⟨e0, e1⟩ := s3.cells; go_simp; try (with_reducible rfl))
  simp only [Act.put, List.setIfInBounds_toArray, List.set_cons_zero, List.set_cons_succ]
  refine wpAnyH_take (i := 28) (v := ?_) (List.getElem?_toArray.trans rfl) (by kernel_rfl) (by kernel_rfl) (by kernel_rfl) (fun _ _ _ h => h) (Or.inl ⟨by rfl, ?_⟩) (by assumption) ?_
  rotate_left
  · (intro w hSw; obtain ⟨s1, s2, s3⟩ := hSw; obtain ⟨c0, c1⟩ := s1.cells; obtain ⟨d0, d1⟩ := s2.cells; obtain ⟨e0, e1⟩ := s3.cells; go_simp; try (with_reducible rfl))
  simp only [Act.put, List.setIfInBounds_toArray, List.set_cons_zero, List.set_cons_succ]
  refine wpAnyH_done (by kernel_rfl) ?_ _
  go_wp2
  go_ret
  exact ⟨ret_bool (by simp), next (next k6.drew hb6) hb7⟩
theorem handleCodes_walk (w : World) (T : Tab w) (I G : Int) (n : Int) (hf : (Lit.int .i64 n).wf = true) :
    Calls Tryd.prog 3 #[.agg #[.int .i64 I, .int .i64 G], .int .i64 n] w fun e w' => e = .returned (.bool true) ∧ Below w.heap.size w w' := by
  obtain ⟨hn0, hn1⟩ := bounds_i64 hf
  exact codes_core w T I G n _ _ _ _ _ _ (hCode_any I G) (refCode_any I G) (fun w => hOf_any n w hn0 hn1) (fun w => refOf_any n w hn0 hn1) (hRight_any I G) (refHRight_any I G)
end Go.Proofs.YtfkiankalddgpaaDoor
