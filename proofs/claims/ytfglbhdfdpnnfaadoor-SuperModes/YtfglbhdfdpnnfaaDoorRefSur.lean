/- joistref17.Read by its contract. -/
import Derived.Test.YtfglbhdfdpnnfaaDoorRefSuq
import Derived.Test.YtfglbhdfdpnnfaaDoorRefAll
import Derived.Test.YtfglbhdfdpnnfaaDoorLine
import Derived.Deep.RegionHeld3
namespace Go.Proofs.YtfglbhdfdpnnfaaDoor
set_option maxRecDepth 100000
open Go.RowKit
set_option linter.unusedVariables false
set_option linter.unusedSimpArgs false
set_option maxRecDepth 100000

theorem eight {l : List Int} (h : l.length = 8) : ∃ a b c d e f g i, l = [a, b, c, d, e, f, g, i] := by
  match l, h with
  | [a, b, c, d, e, f, g, i], _ => exact ⟨a, b, c, d, e, f, g, i, rfl⟩
def zShp : Shp := ⟨0, 0, 0, 0⟩
/-- Where bytes are no eight words. -/
theorem rhRead_few (ao : Option Addr) (n cap : Nat) (zs : List Int) (w : World) (h : Sl .u8 w ao n cap zs) (hby : Bytes zs) (hn : n ≤ 140737488355328) (hno : ¬ (allB zs = true ∧ (allR zs).length = 8)) :
    Calls Tryd.prog 12 #[.slice ao n cap] w fun e w' => e = .returned (.tuple #[.agg #[.int .i64 0, .int .i64 0, .int .i64 0, .int .i64 0], .int .i64 0, .int .i64 0, .bool false]) ∧ Below w.heap.size w w' := by
  have hb0 : Below w.heap.size w (w.alloc (.cells #[.int .i64 0, .int .i64 0, .int .i64 0, .int .i64 0] 23)) := (Below.refl _ _).alloc (Nat.le_refl _) _
  have hR := bxS4_new w zShp
  have cA : Calls Tryd.prog 25 #[.slice ao n cap] (w.alloc (.cells #[.int .i64 0, .int .i64 0, .int .i64 0, .int .i64 0] 23)) fun e w' => ∃ a m c, e = .returned (.tuple #[.slice a m c, .bool (allB zs)]) ∧ Hid (m = (allR zs).length) ∧ Below w.heap.size w w' ∧ BxS4 w' w.heap.size zShp := by
    refine (refall_any ao n cap zs _ (h.below hb0) hby hn).mono ?_
    rintro e w1 ⟨a1, n1, c1, rfl, ho1, hb1⟩
    exact ⟨a1, n1, c1, rfl, hid ho1.len.symm, next hb0 hb1, hR.kept hb1⟩
  have HN : Hid (∀ m : Nat, Hid (m = (allR zs).length) → allB zs = true → ((m : Int) == 8) = false) := hid (fun m e k => by
    have : ¬ (m : Int) = 8 := fun e' => hno ⟨k, by rw [← e.out]; omega⟩
    simpa using this)
  clear hno h hR
  by_cases ha : allB zs = true
  · rw [ha] at cA HN
    clear ha
    go_enter Tryd.func12, Tryd.ntmps12
    go_wp2_with (first
      | (go_at_call 25; with_reducible refine cA.mono ?_; rintro e w1 ⟨a1, n1, c1, rfl, hl1, hb1', hr1⟩; have hn8 := HN.out _ hl1 rfl; obtain ⟨q0, q1, q2, q3⟩ := hr1.cells; have f0 := hr1.free 0; have f1 := hr1.free 1; have f2 := hr1.free 2; have f3 := hr1.free 3))
    refine bodyPost_ret (v := .tuple #[.agg #[.int .i64 0, .int .i64 0, .int .i64 0, .int .i64 0], .int .i64 0, .int .i64 0, .bool false]) (by simp [results, Tryd.results12, go_sem, q0, q1, q2, q3]) rfl ⟨rfl, ?_⟩
    exact (((hb1'.setCell (by simp) _).setCell (by simp) _).setCell (by simp) _).setCell (by simp) _
  · rw [show allB zs = false by simpa using ha] at cA
    clear HN ha
    go_enter Tryd.func12, Tryd.ntmps12
    go_wp2_with (first
      | (go_at_call 25; with_reducible refine cA.mono ?_; rintro e w1 ⟨a1, n1, c1, rfl, hl1, hb1', hr1⟩; obtain ⟨q0, q1, q2, q3⟩ := hr1.cells; have f0 := hr1.free 0; have f1 := hr1.free 1; have f2 := hr1.free 2; have f3 := hr1.free 3))
    refine bodyPost_ret (v := .tuple #[.agg #[.int .i64 0, .int .i64 0, .int .i64 0, .int .i64 0], .int .i64 0, .int .i64 0, .bool false]) (by simp [results, Tryd.results12, go_sem, q0, q1, q2, q3]) rfl ⟨rfl, ?_⟩
    exact (((hb1'.setCell (by simp) _).setCell (by simp) _).setCell (by simp) _).setCell (by simp) _
theorem own_eight {B : Nat} {w : World} {g c : Nat} {x0 x1 x2 x3 x4 x5 x6 x7 : Int} (h : Own .i64 3 B w (some ⟨g, 0, none⟩) 8 c [x0, x1, x2, x3, x4, x5, x6, x7]) : w.cell? ⟨g, 0, none⟩ = some (.int .i64 x0) ∧ w.cell? ⟨g, 1, none⟩ = some (.int .i64 x1) ∧ w.cell? ⟨g, 2, none⟩ = some (.int .i64 x2) ∧ w.cell? ⟨g, 3, none⟩ = some (.int .i64 x3) ∧ w.cell? ⟨g, 4, none⟩ = some (.int .i64 x4) ∧ w.cell? ⟨g, 5, none⟩ = some (.int .i64 x5) ∧ w.cell? ⟨g, 6, none⟩ = some (.int .i64 x6) ∧ w.cell? ⟨g, 7, none⟩ = some (.int .i64 x7) := by
  obtain ⟨b, off, he, _, hc⟩ := h.sl.here (by omega)
  cases he
  have k0 := hc 0 (by omega)
  have k1 := hc 1 (by omega)
  have k2 := hc 2 (by omega)
  have k3 := hc 3 (by omega)
  have k4 := hc 4 (by omega)
  have k5 := hc 5 (by omega)
  have k6 := hc 6 (by omega)
  have k7 := hc 7 (by omega)
  simp at k0 k1 k2 k3 k4 k5 k6 k7
  exact ⟨k0, k1, k2, k3, k4, k5, k6, k7⟩
theorem own_ge {B : Nat} {w : World} {g n c : Nat} {zs : List Int} (h : Own .i64 3 B w (some ⟨g, 0, none⟩) n c zs) : B ≤ g := (h.row.lt g rfl).1
theorem rhRead_eight (ao : Option Addr) (n cap : Nat) (zs : List Int) (w : World) (h : Sl .u8 w ao n cap zs) (hby : Bytes zs) (hn : n ≤ 140737488355328) (ha : allB zs = true) (x0 x1 x2 x3 x4 x5 x6 x7 : Int) (hws : allR zs = [x0, x1, x2, x3, x4, x5, x6, x7]) :
    Calls Tryd.prog 12 #[.slice ao n cap] w fun e w' => (HdP ⟨x2, x3, x4, x5⟩ x1 x6 ∧ spY ⟨x2, x3, x4, x5⟩ x1 x6 = zs → e = .returned (.tuple #[.agg #[.int .i64 x2, .int .i64 x3, .int .i64 x4, .int .i64 x5], .int .i64 x1, .int .i64 x6, .bool true])) ∧ (¬ (HdP ⟨x2, x3, x4, x5⟩ x1 x6 ∧ spY ⟨x2, x3, x4, x5⟩ x1 x6 = zs) → e = .returned (.tuple #[.agg #[.int .i64 0, .int .i64 0, .int .i64 0, .int .i64 0], .int .i64 0, .int .i64 0, .bool false])) ∧ Below w.heap.size w w' := by
  have hb0 : Below w.heap.size w (w.alloc (.cells #[.int .i64 0, .int .i64 0, .int .i64 0, .int .i64 0] 23)) := (Below.refl _ _).alloc (Nat.le_refl _) _
  have hR := bxS4_new w zShp
  have cA : Calls Tryd.prog 25 #[.slice ao n cap] (w.alloc (.cells #[.int .i64 0, .int .i64 0, .int .i64 0, .int .i64 0] 23)) fun e w' => ∃ g c, e = .returned (.tuple #[.slice (some ⟨g, 0, none⟩) 8 c, .bool true]) ∧ Own .i64 3 (w.heap.size + 1) w' (some ⟨g, 0, none⟩) 8 c [x0, x1, x2, x3, x4, x5, x6, x7] ∧ Below w.heap.size w w' ∧ BxS4 w' w.heap.size zShp := by
    refine (refall_any ao n cap zs _ (h.below hb0) hby hn).mono ?_
    rintro e w1 ⟨a1, n1, c1, rfl, ho1, hb1⟩
    rw [hws] at ho1
    obtain rfl : n1 = 8 := ho1.len.symm
    obtain ⟨g, cap', he⟩ := own_shape ho1.row (by omega)
    cases he
    rw [ha]
    exact ⟨g, c1, rfl, by simpa using ho1, next hb0 hb1, hR.kept hb1⟩
  have cW : ∀ w1, _ := fun w1 => rhWrite_any ⟨x2, x3, x4, x5⟩ x1 x6 w1
  clear hws ha hR
  by_cases hH : HdP ⟨x2, x3, x4, x5⟩ x1 x6
  · obtain ⟨e1, e2, _⟩ := sp_t hH
    rw [e1, e2] at cW
    have hYb := spY_bytes ⟨x2, x3, x4, x5⟩ x1 x6
    have HH := hid hH
    generalize spY ⟨x2, x3, x4, x5⟩ x1 x6 = Y at *
    generalize HdP ⟨x2, x3, x4, x5⟩ x1 x6 = PH at *
    have hq := text_eq hYb hby
    have HT : Hid (∀ w3, Below w.heap.size w w3 → (convert 24 9 (.slice ao n cap)).run Tryd.prog w3 = .ok (.string (strOfNums zs)) w3) := hid (fun w3 hb => (h.below hb).text Tryd.underlying24 Tryd.underlying5 Tryd.underlying9)
    clear e1 e2 h hby hYb hb0
    go_enter Tryd.func12, Tryd.ntmps12
    go_wp2_with (first
      | (go_at_call 25; with_reducible refine cA.mono ?_; rintro e w1 ⟨g, c, rfl, ho1, hb1, hr1⟩; obtain ⟨y0, y1, y2, y3, y4, y5, y6, y7⟩ := own_eight ho1; have hglt := World.block_lt_of_cell? w1 _ y0; have hge := own_ge ho1))
    go_region_held3 (fun w' => w'.cell? ⟨g, 2, none⟩ = some (.int .i64 x2) ∧ w'.cell? ⟨g, 3, none⟩ = some (.int .i64 x3) ∧ w'.cell? ⟨g, 4, none⟩ = some (.int .i64 x4) ∧ w'.cell? ⟨g, 5, none⟩ = some (.int .i64 x5)) (go_keep) (fail)
    have hb2 : Below w1.heap.size w1 (w1.alloc (.cells #[.int .i64 x2, .int .i64 x3, .int .i64 x4, .int .i64 x5] 23)).drew := ((Below.refl _ _).alloc (Nat.le_refl _) _).drew
    have hsh : BxS4 (w1.alloc (.cells #[.int .i64 x2, .int .i64 x3, .int .i64 x4, .int .i64 x5] 23)).drew w1.heap.size ⟨x2, x3, x4, x5⟩ := (bxS4_new w1 ⟨x2, x3, x4, x5⟩).kept (Below.refl _ _).drew
    have hr2 := hr1.kept hb2
    have ho2 := ho1.below hb2
    have hbw2 := next hb1 hb2
    have hl2 : w1.heap.size < (w1.alloc (.cells #[.int .i64 x2, .int .i64 x3, .int .i64 x4, .int .i64 x5] 23)).drew.heap.size := by simp
    have hq1 := hr1.lt
    clear y0 y1 y2 y3 y4 y5 y6 y7 ho1 hr1 hb1 hb2
    generalize (w1.alloc (.cells #[.int .i64 x2, .int .i64 x3, .int .i64 x4, .int .i64 x5] 23)).drew = w2 at *
    obtain ⟨y0, y1, y2, y3, y4, y5, y6, y7⟩ := own_eight ho2
    obtain ⟨s0, s1, s2, s3⟩ := hsh.cells
    obtain ⟨r0, r1, r2, r3⟩ := hr2.cells
    go_wp2_with fail
    have HW : Hid (∀ w3, Below w2.drew.heap.size w2.drew w3 → BxS4 w3 w.heap.size zShp ∧ BxS4 w3 w1.heap.size ⟨x2, x3, x4, x5⟩ ∧ Own .i64 3 (w.heap.size + 1) w3 (some ⟨g, 0, none⟩) 8 c [x0, x1, x2, x3, x4, x5, x6, x7] ∧ Below w.heap.size w w3) := hid (fun w3 hb3 => by
      have hd : Below w2.heap.size w2 w2.drew := (Below.refl _ _).drew
      exact ⟨(hr2.kept hd).kept hb3, (hsh.kept hd).kept hb3, (ho2.below hd).below hb3, next (next hbw2 hd) hb3⟩)
    clear hr2 hsh ho2
    go_region_held3 (fun w' => w'.cell? ⟨g, 1, none⟩ = some (.int .i64 x1) ∧ w'.cell? ⟨g, 6, none⟩ = some (.int .i64 x6) ∧ w'.cell? ⟨w1.heap.size, 0, none⟩ = some (.int .i64 x2) ∧ w'.cell? ⟨w1.heap.size, 1, none⟩ = some (.int .i64 x3) ∧ w'.cell? ⟨w1.heap.size, 2, none⟩ = some (.int .i64 x4) ∧ w'.cell? ⟨w1.heap.size, 3, none⟩ = some (.int .i64 x5)) (go_keep) (first
      | (go_at_call 11; with_reducible refine (cW _).mono ?_; rintro e w3 ⟨a3, n3, c3, rfl, ho3, hb3⟩; obtain ⟨hr3, hs3, hg3, hbw3⟩ := HW.out w3 hb3; obtain ⟨y0, y1, y2, y3, y4, y5, y6, y7⟩ := own_eight hg3; obtain ⟨s0, s1, s2, s3⟩ := hs3.cells))
    have hlt3 := hr3.lt
    obtain ⟨r0, r1, r2, r3⟩ := hr3.cells
    have f0 := hr3.free 0
    have f1 := hr3.free 1
    have f2 := hr3.free 2
    have f3 := hr3.free 3
    have t1 := ho3.sl.text (P := Tryd.prog) Tryd.underlying24 Tryd.underlying5 Tryd.underlying9
    have t2 := HT.out w3 hbw3
    have hg1 : g ≠ w.heap.size := by omega
    have hg2 : w1.heap.size ≠ w.heap.size := by omega
    have hg3' : w.heap.size ≠ g := by omega
    have hg4 : w.heap.size ≠ w1.heap.size := by omega
    clear hr3 hs3 hg3 ho3 hb3 HT HW
    by_cases hE : Y = zs
    · rw [show decide (Y = zs) = true from decide_eq_true hE] at hq
      have HF := hid (And.intro HH.out hE)
      clear hE HH
      go_wp2_with fail
      go_region_held3 (fun w' => w'.cell? ⟨g, 1, none⟩ = some (.int .i64 x1) ∧ w'.cell? ⟨g, 6, none⟩ = some (.int .i64 x6) ∧ w'.cell? ⟨w1.heap.size, 0, none⟩ = some (.int .i64 x2) ∧ w'.cell? ⟨w1.heap.size, 1, none⟩ = some (.int .i64 x3) ∧ w'.cell? ⟨w1.heap.size, 2, none⟩ = some (.int .i64 x4) ∧ w'.cell? ⟨w1.heap.size, 3, none⟩ = some (.int .i64 x5)) (go_keep) (fail)
      go_wp2
      refine bodyPost_ret (v := .tuple #[.agg #[.int .i64 x2, .int .i64 x3, .int .i64 x4, .int .i64 x5], .int .i64 x1, .int .i64 x6, .bool true]) (by simp [results, Tryd.results12, go_sem, r0, r1, r2, r3]) rfl ⟨fun _ => rfl, fun k => absurd HF.out k, ?_⟩
      exact ((((hbw3.setCell (by simp) _).setCell (by simp) _).setCell (by simp) _).setCell (by simp) _).drew
    · rw [show decide (Y = zs) = false from decide_eq_false hE] at hq
      have HF : Hid (¬ (PH ∧ Y = zs)) := hid (fun k => hE k.2)
      clear hE HH
      go_wp2
      refine bodyPost_ret (v := .tuple #[.agg #[.int .i64 0, .int .i64 0, .int .i64 0, .int .i64 0], .int .i64 0, .int .i64 0, .bool false]) (by simp [results, Tryd.results12, go_sem, r0, r1, r2, r3]) rfl ⟨fun k => absurd k HF.out, fun _ => rfl, ?_⟩
      exact (((hbw3.setCell (by simp) _).setCell (by simp) _).setCell (by simp) _).setCell (by simp) _
  · obtain ⟨e1, e2, _⟩ := sp_f hH
    rw [e1, e2] at cW
    have HF : Hid (¬ (HdP ⟨x2, x3, x4, x5⟩ x1 x6 ∧ spY ⟨x2, x3, x4, x5⟩ x1 x6 = zs)) := hid (fun k => hH k.1)
    generalize spY ⟨x2, x3, x4, x5⟩ x1 x6 = Y at *
    generalize HdP ⟨x2, x3, x4, x5⟩ x1 x6 = PH at *
    clear e1 e2 hH h hby hb0
    go_enter Tryd.func12, Tryd.ntmps12
    go_wp2_with (first
      | (go_at_call 25; with_reducible refine cA.mono ?_; rintro e w1 ⟨g, c, rfl, ho1, hb1, hr1⟩; obtain ⟨y0, y1, y2, y3, y4, y5, y6, y7⟩ := own_eight ho1; have hglt := World.block_lt_of_cell? w1 _ y0; have hge := own_ge ho1))
    go_region_held3 (fun w' => w'.cell? ⟨g, 2, none⟩ = some (.int .i64 x2) ∧ w'.cell? ⟨g, 3, none⟩ = some (.int .i64 x3) ∧ w'.cell? ⟨g, 4, none⟩ = some (.int .i64 x4) ∧ w'.cell? ⟨g, 5, none⟩ = some (.int .i64 x5)) (go_keep) (fail)
    have hb2 : Below w1.heap.size w1 (w1.alloc (.cells #[.int .i64 x2, .int .i64 x3, .int .i64 x4, .int .i64 x5] 23)).drew := ((Below.refl _ _).alloc (Nat.le_refl _) _).drew
    have hsh : BxS4 (w1.alloc (.cells #[.int .i64 x2, .int .i64 x3, .int .i64 x4, .int .i64 x5] 23)).drew w1.heap.size ⟨x2, x3, x4, x5⟩ := (bxS4_new w1 ⟨x2, x3, x4, x5⟩).kept (Below.refl _ _).drew
    have hr2 := hr1.kept hb2
    have ho2 := ho1.below hb2
    have hbw2 := next hb1 hb2
    have hl2 : w1.heap.size < (w1.alloc (.cells #[.int .i64 x2, .int .i64 x3, .int .i64 x4, .int .i64 x5] 23)).drew.heap.size := by simp
    have hq1 := hr1.lt
    clear y0 y1 y2 y3 y4 y5 y6 y7 ho1 hr1 hb1 hb2
    generalize (w1.alloc (.cells #[.int .i64 x2, .int .i64 x3, .int .i64 x4, .int .i64 x5] 23)).drew = w2 at *
    obtain ⟨y0, y1, y2, y3, y4, y5, y6, y7⟩ := own_eight ho2
    obtain ⟨s0, s1, s2, s3⟩ := hsh.cells
    obtain ⟨r0, r1, r2, r3⟩ := hr2.cells
    go_wp2_with fail
    have HW : Hid (∀ w3, Below w2.drew.heap.size w2.drew w3 → BxS4 w3 w.heap.size zShp ∧ BxS4 w3 w1.heap.size ⟨x2, x3, x4, x5⟩ ∧ Own .i64 3 (w.heap.size + 1) w3 (some ⟨g, 0, none⟩) 8 c [x0, x1, x2, x3, x4, x5, x6, x7] ∧ Below w.heap.size w w3) := hid (fun w3 hb3 => by
      have hd : Below w2.heap.size w2 w2.drew := (Below.refl _ _).drew
      exact ⟨(hr2.kept hd).kept hb3, (hsh.kept hd).kept hb3, (ho2.below hd).below hb3, next (next hbw2 hd) hb3⟩)
    clear hr2 hsh ho2
    go_region_held3 (fun w' => w'.cell? ⟨g, 1, none⟩ = some (.int .i64 x1) ∧ w'.cell? ⟨g, 6, none⟩ = some (.int .i64 x6) ∧ w'.cell? ⟨w1.heap.size, 0, none⟩ = some (.int .i64 x2) ∧ w'.cell? ⟨w1.heap.size, 1, none⟩ = some (.int .i64 x3) ∧ w'.cell? ⟨w1.heap.size, 2, none⟩ = some (.int .i64 x4) ∧ w'.cell? ⟨w1.heap.size, 3, none⟩ = some (.int .i64 x5)) (go_keep) (first
      | (go_at_call 11; with_reducible refine (cW _).mono ?_; rintro e w3 ⟨a3, n3, c3, rfl, ho3, hb3⟩; obtain ⟨hr3, hs3, hg3, hbw3⟩ := HW.out w3 hb3; obtain ⟨y0, y1, y2, y3, y4, y5, y6, y7⟩ := own_eight hg3; obtain ⟨s0, s1, s2, s3⟩ := hs3.cells))
    have hlt3 := hr3.lt
    obtain ⟨r0, r1, r2, r3⟩ := hr3.cells
    have f0 := hr3.free 0
    have f1 := hr3.free 1
    have f2 := hr3.free 2
    have f3 := hr3.free 3
    clear hr3 hs3 hg3 ho3 hb3 HW
    go_wp2
    refine bodyPost_ret (v := .tuple #[.agg #[.int .i64 0, .int .i64 0, .int .i64 0, .int .i64 0], .int .i64 0, .int .i64 0, .bool false]) (by simp [results, Tryd.results12, go_sem, r0, r1, r2, r3]) rfl ⟨fun k => absurd k HF.out, fun _ => rfl, ?_⟩
    exact (((hbw3.setCell (by simp) _).setCell (by simp) _).setCell (by simp) _).setCell (by simp) _
theorem rhRead_any (ao : Option Addr) (n cap : Nat) (zs : List Int) (w : World) (h : Sl .u8 w ao n cap zs) (hby : Bytes zs) (hn : n ≤ 140737488355328) :
    Calls Tryd.prog 12 #[.slice ao n cap] w fun e w' => e = .returned (.tuple #[.agg #[.int .i64 (rhS zs).pg, .int .i64 (rhS zs).sl, .int .i64 (rhS zs).rt, .int .i64 (rhS zs).rm], .int .i64 (rhM zs), .int .i64 (rhN zs), .bool (rhB zs)]) ∧ Below w.heap.size w w' := by
  by_cases h8 : allB zs = true ∧ (allR zs).length = 8
  · obtain ⟨x0, x1, x2, x3, x4, x5, x6, x7, hx⟩ := eight h8.2
    refine (rhRead_eight ao n cap zs w h hby hn h8.1 x0 x1 x2 x3 x4 x5 x6 x7 hx).mono ?_
    rintro e w' ⟨h1, h2, hb⟩
    refine ⟨?_, hb⟩
    by_cases hR : RdH zs
    · obtain ⟨a, b, c, d⟩ := rh_t hR
      rw [a, b, c, d]
      obtain ⟨_, _, k1, k2⟩ := hR
      rw [hx] at k1 k2 ⊢
      exact h1 ⟨k1, k2⟩
    · obtain ⟨a, b, c, d⟩ := rh_f hR
      rw [a, b, c, d]
      refine h2 (fun k => hR ⟨h8.1, h8.2, ?_, ?_⟩)
      · rw [hx]; exact k.1
      · rw [hx]; exact k.2
  · refine (rhRead_few ao n cap zs w h hby hn h8).mono ?_
    rintro e w' ⟨rfl, hb⟩
    obtain ⟨a, b, c, d⟩ := rh_f (fun k : RdH zs => h8 ⟨k.1, k.2.1⟩)
    rw [a, b, c, d]
    exact ⟨rfl, hb⟩
end Go.Proofs.YtfglbhdfdpnnfaaDoor
