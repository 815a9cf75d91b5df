/- super.Read by its contract. -/
import Derived.Test.YtfglbhdfdpnnfaaDoorSucB
namespace Go.Proofs.YtfglbhdfdpnnfaaDoor
set_option maxRecDepth 100000
open Go.RowKit
set_option linter.unusedVariables false
set_option linter.unusedSimpArgs false
set_option maxRecDepth 100000

theorem own_seven {B : Nat} {w : World} {g c : Nat} {x0 x1 x2 x3 x4 x5 x6 : Int} (h : Own .i64 3 B w (some ⟨g, 0, none⟩) 7 c [x0, x1, x2, x3, x4, x5, x6]) : w.cell? ⟨g, 0, none⟩ = some (.int .i64 x0) ∧ w.cell? ⟨g, 1, none⟩ = some (.int .i64 x1) ∧ w.cell? ⟨g, 2, none⟩ = some (.int .i64 x2) ∧ w.cell? ⟨g, 3, none⟩ = some (.int .i64 x3) ∧ w.cell? ⟨g, 4, none⟩ = some (.int .i64 x4) ∧ w.cell? ⟨g, 5, none⟩ = some (.int .i64 x5) ∧ w.cell? ⟨g, 6, none⟩ = some (.int .i64 x6) := by
  obtain ⟨b, off, he, _, hc⟩ := h.sl.here (by omega)
  cases he
  have k0 := hc 0 (by omega)
  have k1 := hc 1 (by omega)
  have k2 := hc 2 (by omega)
  have k3 := hc 3 (by omega)
  have k4 := hc 4 (by omega)
  have k5 := hc 5 (by omega)
  have k6 := hc 6 (by omega)
  exact ⟨by simpa using k0, by simpa using k1, by simpa using k2, by simpa using k3, by simpa using k4, by simpa using k5, by simpa using k6⟩
/-- Where bytes are no line with a right sum. -/
theorem suRead_few (ao : Option Addr) (n cap : Nat) (zs : List Int) (w : World) (h : Sl .u8 w ao n cap zs) (hby : Bytes zs) (hn : n ≤ 140737488355328) (hno : nuB zs = false) :
    Calls Tryd.prog 9 #[.slice ao n cap] w fun e w' => e = .returned (.tuple #[.agg #[.int .i64 0, .int .i64 0, .int .i64 0, .int .i64 0], .int .i64 0, .int .i64 0, .bool false]) ∧ Below w.heap.size w w' := by
  have hb0 : Below w.heap.size w (w.alloc (.cells #[.int .i64 0, .int .i64 0, .int .i64 0, .int .i64 0] 23)) := (Below.refl _ _).alloc (Nat.le_refl _) _
  have hR := bxS4_new w zShp
  have cA : Calls Tryd.prog 22 #[.slice ao n cap] (w.alloc (.cells #[.int .i64 0, .int .i64 0, .int .i64 0, .int .i64 0] 23)) fun e w' => ∃ a m c, e = .returned (.tuple #[.slice a m c, .bool false]) ∧ Below w.heap.size w w' ∧ BxS4 w' w.heap.size zShp := by
    refine (numbers_any ao n cap zs _ (h.below hb0) hby hn).mono ?_
    rintro e w1 ⟨a1, n1, c1, rfl, ho1, hb1⟩
    rw [hno]
    exact ⟨a1, n1, c1, rfl, next hb0 hb1, hR.kept hb1⟩
  clear hno h hR hb0
  go_enter Tryd.func9, Tryd.ntmps9
  go_wp2_with (first
    | (go_at_call 22; with_reducible refine cA.mono ?_; rintro e w1 ⟨a1, n1, c1, rfl, hb1', hr1⟩; obtain ⟨q0, q1, q2, q3⟩ := hr1.cells; have f0 := hr1.free 0; have f1 := hr1.free 1; have f2 := hr1.free 2; have f3 := hr1.free 3))
  refine bodyPost_ret (v := .tuple #[.agg #[.int .i64 0, .int .i64 0, .int .i64 0, .int .i64 0], .int .i64 0, .int .i64 0, .bool false]) (by simp [results, Tryd.results9, go_sem, q0, q1, q2, q3]) rfl ⟨rfl, ?_⟩
  exact (((hb1'.setCell (by simp) _).setCell (by simp) _).setCell (by simp) _).setCell (by simp) _
/-- Where bytes are seven numbers and their sum. -/
theorem suRead_seven (ao : Option Addr) (n cap : Nat) (zs : List Int) (w : World) (h : Sl .u8 w ao n cap zs) (hby : Bytes zs) (hn : n ≤ 140737488355328) (ha : nuB zs = true) (x0 x1 x2 x3 x4 x5 x6 : Int) (hws : nuL zs = [x0, x1, x2, x3, x4, x5, x6]) (hok : okL [x0, x1, x2, x3, x4, x5, x6] = true) :
    Calls Tryd.prog 9 #[.slice ao n cap] w fun e w' => (x0 = 54238244327242 ∧ HdP ⟨x2, x3, x4, x5⟩ x1 x6 → e = .returned (.tuple #[.agg #[.int .i64 x2, .int .i64 x3, .int .i64 x4, .int .i64 x5], .int .i64 x1, .int .i64 x6, .bool true])) ∧ (¬ (x0 = 54238244327242 ∧ HdP ⟨x2, x3, x4, x5⟩ x1 x6) → e = .returned (.tuple #[.agg #[.int .i64 0, .int .i64 0, .int .i64 0, .int .i64 0], .int .i64 0, .int .i64 0, .bool false])) ∧ Below w.heap.size w w' := by
  have hb0 : Below w.heap.size w (w.alloc (.cells #[.int .i64 0, .int .i64 0, .int .i64 0, .int .i64 0] 23)) := (Below.refl _ _).alloc (Nat.le_refl _) _
  have hR := bxS4_new w zShp
  have cA : Calls Tryd.prog 22 #[.slice ao n cap] (w.alloc (.cells #[.int .i64 0, .int .i64 0, .int .i64 0, .int .i64 0] 23)) fun e w' => ∃ g c, e = .returned (.tuple #[.slice (some ⟨g, 0, none⟩) 7 c, .bool true]) ∧ Own .i64 3 (w.heap.size + 1) w' (some ⟨g, 0, none⟩) 7 c [x0, x1, x2, x3, x4, x5, x6] ∧ Below w.heap.size w w' ∧ BxS4 w' w.heap.size zShp := by
    refine (numbers_any ao n cap zs _ (h.below hb0) hby hn).mono ?_
    rintro e w1 ⟨a1, n1, c1, rfl, ho1, hb1⟩
    rw [hws] at ho1
    obtain rfl : n1 = 7 := ho1.len.symm
    obtain ⟨g, cap', he⟩ := own_shape ho1.row (by omega)
    cases he
    rw [ha]
    exact ⟨g, c1, rfl, by simpa using ho1, next hb0 hb1, hR.kept hb1⟩
  have rg : ∀ j, j < 7 → Rg ([x0, x1, x2, x3, x4, x5, x6].getD j 0) := fun j hj => by
    have := fitB_and (okL_at hok j hj)
    unfold Rg
    omega
  have cR : ∀ w1, _ := fun w1 => suRight_any ⟨x2, x3, x4, x5⟩ ⟨rg 2 (by omega), rg 3 (by omega), rg 4 (by omega), rg 5 (by omega)⟩ x1 x6 (rg 1 (by omega)) (rg 6 (by omega)) w1
  clear hws ha hR hok rg
  by_cases h0 : x0 = 54238244327242
  · subst h0
    simp only [true_and]
    have hp : hpB ⟨x2, x3, x4, x5⟩ x1 x6 = decide (HdP ⟨x2, x3, x4, x5⟩ x1 x6) := rfl
    by_cases hH : HdP ⟨x2, x3, x4, x5⟩ x1 x6
    · rw [hp, decide_eq_true hH] at cR
      have HH := hid hH
      clear hp
      generalize HdP ⟨x2, x3, x4, x5⟩ x1 x6 = PH at *
      clear h hby hb0 hH
      go_enter Tryd.func9, Tryd.ntmps9
      go_wp2_with (first
        | (go_at_call 22; with_reducible refine cA.mono ?_; rintro e w1 ⟨g, c, rfl, ho1, hb1, hr1⟩; obtain ⟨y0, y1, y2, y3, y4, y5, y6⟩ := own_seven ho1; have hglt := World.block_lt_of_cell? w1 _ y0; have hge := own_ge ho1))
      go_region_held3 (fun w' => w'.cell? ⟨g, 2, none⟩ = some (.int .i64 x2) ∧ w'.cell? ⟨g, 3, none⟩ = some (.int .i64 x3) ∧ w'.cell? ⟨g, 4, none⟩ = some (.int .i64 x4) ∧ w'.cell? ⟨g, 5, none⟩ = some (.int .i64 x5)) (go_keep) (fail)
      have hb2 : Below w1.heap.size w1 (w1.alloc (.cells #[.int .i64 x2, .int .i64 x3, .int .i64 x4, .int .i64 x5] 23)).drew := ((Below.refl _ _).alloc (Nat.le_refl _) _).drew
      have hsh : BxS4 (w1.alloc (.cells #[.int .i64 x2, .int .i64 x3, .int .i64 x4, .int .i64 x5] 23)).drew w1.heap.size ⟨x2, x3, x4, x5⟩ := (bxS4_new w1 ⟨x2, x3, x4, x5⟩).kept (Below.refl _ _).drew
      have hr2 := hr1.kept hb2
      have ho2 := ho1.below hb2
      have hbw2 := next hb1 hb2
      have hl2 : w1.heap.size < (w1.alloc (.cells #[.int .i64 x2, .int .i64 x3, .int .i64 x4, .int .i64 x5] 23)).drew.heap.size := by simp
      have hq1 := hr1.lt
      clear y0 y1 y2 y3 y4 y5 y6 ho1 hr1 hb1 hb2
      generalize (w1.alloc (.cells #[.int .i64 x2, .int .i64 x3, .int .i64 x4, .int .i64 x5] 23)).drew = w2 at *
      obtain ⟨y0, y1, y2, y3, y4, y5, y6⟩ := own_seven ho2
      go_wp2_with fail
      go_region_held3 (fun w' => w'.cell? ⟨g, 1, none⟩ = some (.int .i64 x1) ∧ w'.cell? ⟨g, 6, none⟩ = some (.int .i64 x6)) (go_keep) (fail)
      have HW : Hid (∀ w3, Below w2.drew.heap.size w2.drew w3 → BxS4 w3 w.heap.size zShp ∧ BxS4 w3 w1.heap.size ⟨x2, x3, x4, x5⟩ ∧ Below w.heap.size w w3) := hid (fun w3 hb3 => by
        have hd : Below w2.heap.size w2 w2.drew := (Below.refl _ _).drew
        exact ⟨(hr2.kept hd).kept hb3, (hsh.kept hd).kept hb3, next (next hbw2 hd) hb3⟩)
      obtain ⟨s0, s1, s2, s3⟩ := hsh.cells
      have hne : w1.heap.size ≠ w.heap.size := by omega
      have hne' : w.heap.size ≠ w1.heap.size := by omega
      clear hr2 hsh ho2 y0 y1 y2 y3 y4 y5 y6
      go_wp2_with (first
        | (go_at_call 18; with_reducible refine (cR _).mono ?_; rintro e w3 ⟨rfl, hb3⟩; obtain ⟨hr3, hs3, hbw3⟩ := HW.out w3 hb3; obtain ⟨s0, s1, s2, s3⟩ := hs3.cells; obtain ⟨r0, r1, r2, r3⟩ := hr3.cells; have f0 := hr3.free 0; have f1 := hr3.free 1; have f2 := hr3.free 2; have f3 := hr3.free 3))
      refine bodyPost_ret (v := .tuple #[.agg #[.int .i64 x2, .int .i64 x3, .int .i64 x4, .int .i64 x5], .int .i64 x1, .int .i64 x6, .bool true]) (by simp [results, Tryd.results9, go_sem, r0, r1, r2, r3]) rfl ⟨fun _ => rfl, fun k => absurd HH.out k, ?_⟩
      exact (((hbw3.setCell (by simp) _).setCell (by simp) _).setCell (by simp) _).setCell (by simp) _
    · rw [hp, decide_eq_false hH] at cR
      have HH := hid hH
      clear hp
      generalize HdP ⟨x2, x3, x4, x5⟩ x1 x6 = PH at *
      clear h hby hb0 hH
      go_enter Tryd.func9, Tryd.ntmps9
      go_wp2_with (first
        | (go_at_call 22; with_reducible refine cA.mono ?_; rintro e w1 ⟨g, c, rfl, ho1, hb1, hr1⟩; obtain ⟨y0, y1, y2, y3, y4, y5, y6⟩ := own_seven ho1; have hglt := World.block_lt_of_cell? w1 _ y0; have hge := own_ge ho1))
      go_region_held3 (fun w' => w'.cell? ⟨g, 2, none⟩ = some (.int .i64 x2) ∧ w'.cell? ⟨g, 3, none⟩ = some (.int .i64 x3) ∧ w'.cell? ⟨g, 4, none⟩ = some (.int .i64 x4) ∧ w'.cell? ⟨g, 5, none⟩ = some (.int .i64 x5)) (go_keep) (fail)
      have hb2 : Below w1.heap.size w1 (w1.alloc (.cells #[.int .i64 x2, .int .i64 x3, .int .i64 x4, .int .i64 x5] 23)).drew := ((Below.refl _ _).alloc (Nat.le_refl _) _).drew
      have hsh : BxS4 (w1.alloc (.cells #[.int .i64 x2, .int .i64 x3, .int .i64 x4, .int .i64 x5] 23)).drew w1.heap.size ⟨x2, x3, x4, x5⟩ := (bxS4_new w1 ⟨x2, x3, x4, x5⟩).kept (Below.refl _ _).drew
      have hr2 := hr1.kept hb2
      have ho2 := ho1.below hb2
      have hbw2 := next hb1 hb2
      have hl2 : w1.heap.size < (w1.alloc (.cells #[.int .i64 x2, .int .i64 x3, .int .i64 x4, .int .i64 x5] 23)).drew.heap.size := by simp
      have hq1 := hr1.lt
      clear y0 y1 y2 y3 y4 y5 y6 ho1 hr1 hb1 hb2
      generalize (w1.alloc (.cells #[.int .i64 x2, .int .i64 x3, .int .i64 x4, .int .i64 x5] 23)).drew = w2 at *
      obtain ⟨y0, y1, y2, y3, y4, y5, y6⟩ := own_seven ho2
      go_wp2_with fail
      go_region_held3 (fun w' => w'.cell? ⟨g, 1, none⟩ = some (.int .i64 x1) ∧ w'.cell? ⟨g, 6, none⟩ = some (.int .i64 x6)) (go_keep) (fail)
      have HW : Hid (∀ w3, Below w2.drew.heap.size w2.drew w3 → BxS4 w3 w.heap.size zShp ∧ BxS4 w3 w1.heap.size ⟨x2, x3, x4, x5⟩ ∧ Below w.heap.size w w3) := hid (fun w3 hb3 => by
        have hd : Below w2.heap.size w2 w2.drew := (Below.refl _ _).drew
        exact ⟨(hr2.kept hd).kept hb3, (hsh.kept hd).kept hb3, next (next hbw2 hd) hb3⟩)
      obtain ⟨s0, s1, s2, s3⟩ := hsh.cells
      have hne : w1.heap.size ≠ w.heap.size := by omega
      have hne' : w.heap.size ≠ w1.heap.size := by omega
      clear hr2 hsh ho2 y0 y1 y2 y3 y4 y5 y6
      go_wp2_with (first
        | (go_at_call 18; with_reducible refine (cR _).mono ?_; rintro e w3 ⟨rfl, hb3⟩; obtain ⟨hr3, hs3, hbw3⟩ := HW.out w3 hb3; obtain ⟨s0, s1, s2, s3⟩ := hs3.cells; obtain ⟨r0, r1, r2, r3⟩ := hr3.cells; have f0 := hr3.free 0; have f1 := hr3.free 1; have f2 := hr3.free 2; have f3 := hr3.free 3))
      refine bodyPost_ret (v := .tuple #[.agg #[.int .i64 0, .int .i64 0, .int .i64 0, .int .i64 0], .int .i64 0, .int .i64 0, .bool false]) (by simp [results, Tryd.results9, go_sem, r0, r1, r2, r3]) rfl ⟨fun k => absurd k HH.out, fun _ => rfl, ?_⟩
      exact (((hbw3.setCell (by simp) _).setCell (by simp) _).setCell (by simp) _).setCell (by simp) _
  · have HF : Hid (¬ (x0 = 54238244327242 ∧ HdP ⟨x2, x3, x4, x5⟩ x1 x6)) := hid (fun k => h0 k.1)
    generalize HdP ⟨x2, x3, x4, x5⟩ x1 x6 = PH at *
    clear h hby hb0 cR
    go_enter Tryd.func9, Tryd.ntmps9
    go_wp2_with (first
      | (go_at_call 22; with_reducible refine cA.mono ?_; rintro e w1 ⟨g, c, rfl, ho1, hb1', hr1⟩; obtain ⟨y0, y1, y2, y3, y4, y5, y6⟩ := own_seven ho1; obtain ⟨q0, q1, q2, q3⟩ := hr1.cells; have f0 := hr1.free 0; have f1 := hr1.free 1; have f2 := hr1.free 2; have f3 := hr1.free 3))
    refine bodyPost_ret (v := .tuple #[.agg #[.int .i64 0, .int .i64 0, .int .i64 0, .int .i64 0], .int .i64 0, .int .i64 0, .bool false]) (by simp [results, Tryd.results9, go_sem, q0, q1, q2, q3]) rfl ⟨fun k => absurd k HF.out, fun _ => rfl, ?_⟩
    exact (((hb1'.setCell (by simp) _).setCell (by simp) _).setCell (by simp) _).setCell (by simp) _
theorem suRead_any (ao : Option Addr) (n cap : Nat) (zs : List Int) (w : World) (h : Sl .u8 w ao n cap zs) (hby : Bytes zs) (hn : n ≤ 140737488355328) :
    Calls Tryd.prog 9 #[.slice ao n cap] w fun e w' => e = .returned (.tuple #[.agg #[.int .i64 (rhS zs).pg, .int .i64 (rhS zs).sl, .int .i64 (rhS zs).rt, .int .i64 (rhS zs).rm], .int .i64 (rhM zs), .int .i64 (rhN zs), .bool (rhB zs)]) ∧ Below w.heap.size w w' := by
  by_cases ha : nuB zs = true
  · obtain ⟨x0, x1, x2, x3, x4, x5, x6, hx, hok, hi, hv⟩ := nu_t hby ha
    refine (suRead_seven ao n cap zs w h hby hn ha x0 x1 x2 x3 x4 x5 x6 hx hok).mono ?_
    rintro e w' ⟨h1, h2, hb⟩
    refine ⟨?_, hb⟩
    by_cases hR : RdH zs
    · rw [h1 (hi.1 hR)]
      obtain ⟨a, b, c⟩ := hv hR
      rw [a, b, c, (rh_t hR).2.2.2]
    · rw [h2 (fun k => hR (hi.2 k))]
      obtain ⟨a, b, c, d⟩ := rh_f hR
      rw [a, b, c, d]
  · have ha' : nuB zs = false := by simpa using ha
    refine (suRead_few ao n cap zs w h hby hn ha').mono ?_
    rintro e w' ⟨h1, hb⟩
    refine ⟨?_, hb⟩
    obtain ⟨a, b, c, d⟩ := rh_f (nu_f ha')
    rw [h1, a, b, c, d]
end Go.Proofs.YtfglbhdfdpnnfaaDoor
