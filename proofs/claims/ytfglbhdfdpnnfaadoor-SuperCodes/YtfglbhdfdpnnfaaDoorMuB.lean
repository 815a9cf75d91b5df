/- SupCode · SmallSup: these texts, one behind another. -/
import Derived.Test.YtfglbhdfdpnnfaaDoorSucC
import Derived.Test.YtfglbhdfdpnnfaaDoorMuA
/- super's functions by their contracts, gathered. -/
/- joistlaw17.small: a small case comes out right. -/
namespace Go.Proofs.YtfglbhdfdpnnfaaDoor
set_option maxRecDepth 100000
open Go.RowKit
set_option linter.unusedVariables false
set_option linter.unusedSimpArgs false
set_option maxRecDepth 100000

def shp4 : Shp := ⟨4, 4, 2, 30⟩
theorem shp4_g : ShG shp4 := ⟨⟨by decide, by decide⟩, ⟨by decide, by decide⟩, ⟨by decide, by decide⟩, ⟨by decide, by decide⟩⟩
theorem shp4_up : HdP shp4 3 2 := by decide
theorem shp4_no : ¬ HdP shp4 1 1 := by decide
theorem shp4_cells {w : World} {b : Nat} (h : BxS4 w b shp4) : w.cell? ⟨b, 0, none⟩ = some (.int .i64 4) ∧ w.cell? ⟨b, 1, none⟩ = some (.int .i64 4) ∧ w.cell? ⟨b, 2, none⟩ = some (.int .i64 2) ∧ w.cell? ⟨b, 3, none⟩ = some (.int .i64 30) := h.cells
theorem smallU_any (w : World) (T : Nms w) :
    Calls Tryd.prog 6 #[] w fun e w' => e = .returned (.bool true) ∧ Below w.heap.size w w' := by
  have hb0 : Below w.heap.size w (w.alloc (.cells #[.int .i64 4, .int .i64 4, .int .i64 2, .int .i64 30] 23)) := (Below.refl _ _).alloc (Nat.le_refl _) _
  have hS : BxS4 (w.alloc (.cells #[.int .i64 4, .int .i64 4, .int .i64 2, .int .i64 30] 23)) w.heap.size shp4 := bxS4_new w shp4
  have c1 : Calls Tryd.prog 8 #[.agg #[.int .i64 4, .int .i64 4, .int .i64 2, .int .i64 30], .int .i64 3, .int .i64 2] (w.alloc (.cells #[.int .i64 4, .int .i64 4, .int .i64 2, .int .i64 30] 23)) fun e w' => ∃ ao c, e = .returned (.tuple #[.slice ao 64 c, .int .i64 0]) ∧ Sl .u8 w' ao 64 c (spY shp4 3 2) ∧ BxS4 w' w.heap.size shp4 ∧ Below w.heap.size w w' := by
    refine (suWrite_any shp4 shp4_g 3 2 ⟨by decide, by decide⟩ ⟨by decide, by decide⟩ _).mono ?_
    rintro e w1 ⟨ao, n, c, rfl, ho, hb⟩
    obtain ⟨e1, e2, _⟩ := sp_t shp4_up
    rw [e2] at ho
    rw [e1]
    obtain rfl : n = 64 := by rw [← ho.len, spY_len]
    exact ⟨ao, c, rfl, ho.sl, hS.kept hb, next hb0 hb⟩
  have c2 : ∀ ao c w1, Sl .u8 w1 ao 64 c (spY shp4 3 2) → Calls Tryd.prog 9 #[.slice ao 64 c] w1 fun e w' => e = .returned (.tuple #[.agg #[.int .i64 4, .int .i64 4, .int .i64 2, .int .i64 30], .int .i64 3, .int .i64 2, .bool true]) ∧ Below w1.heap.size w1 w' := fun ao c w1 h => by
    refine (suRead_any ao 64 c _ w1 h (spY_bytes _ _ _) (by omega)).mono ?_
    rintro e w2 ⟨rfl, hb⟩
    obtain ⟨_, a, b, c, d⟩ := rd_sp shp4_up
    rw [a, b, c, d]
    exact ⟨rfl, hb⟩
  have c3 : ∀ w1, Calls Tryd.prog 8 #[.agg #[.int .i64 4, .int .i64 4, .int .i64 2, .int .i64 30], .int .i64 1, .int .i64 1] w1 fun e w' => ∃ ao n c, e = .returned (.tuple #[.slice ao n c, .int .i64 1]) ∧ Below w1.heap.size w1 w' := fun w1 => by
    refine (suWrite_any shp4 shp4_g 1 1 ⟨by decide, by decide⟩ ⟨by decide, by decide⟩ _).mono ?_
    rintro e w2 ⟨ao, n, c, rfl, ho, hb⟩
    rw [(sp_f shp4_no).1]
    exact ⟨ao, n, c, rfl, hb⟩
  have c4 : ∀ w1, Nms w1 → Calls Tryd.prog 14 #[.string ⟨#[116, 119, 111]⟩] w1 fun e w' => e = .returned (.tuple #[.int .i64 2, .bool true]) ∧ Below w1.heap.size w1 w' := fun w1 T1 =>
    suMode_any ⟨#[116, 119, 111]⟩ w1 T1
  have c5 : ∀ w1, Nms w1 → Calls Tryd.prog 16 #[.int .i64 2] w1 fun e w' => e = .returned (.string ⟨#[116, 119, 111]⟩) ∧ Below w1.heap.size w1 w' := fun w1 T1 =>
    suName_any 2 w1 T1
  have HB : Hid (∀ w1 w2 (o : Obj), Below w.heap.size w w1 → Below w1.heap.size w1 w2 → BxS4 w1 w.heap.size shp4 → BxS4 (w2.alloc o) w.heap.size shp4 ∧ Below w.heap.size w (w2.alloc o)) := hid (fun w1 w2 o h1 h2 h3 => ⟨(h3.kept h2).more o, (next h1 h2).alloc (next h1 h2).size _⟩)
  have hz : ∀ w2 : World, BxS4 (w2.alloc (.cells #[.int .i64 4, .int .i64 4, .int .i64 2, .int .i64 30] 23)) w2.heap.size shp4 := fun w2 => bxS4_new w2 shp4
  clear hS hb0
  generalize spY shp4 3 2 = Y at *
  go_enter Tryd.func6, Tryd.ntmps6
  go_wp2_with (first
    | (go_at_call 8; with_reducible refine c1.mono ?_; rintro e w1 ⟨ao, c, rfl, hsl, hs1, hb1⟩)
    | (go_at_call 9; with_reducible refine (c2 _ _ _ hsl).mono ?_; rintro e w2 ⟨rfl, hb2⟩; have hq := HB.out w1 w2 (.cells #[.int .i64 4, .int .i64 4, .int .i64 2, .int .i64 30] 23) hb1 hb2 hs1; have hs2 := hq.1; have hb2' := hq.2; obtain ⟨q0, q1, q2, q3⟩ := shp4_cells hs2; have hx := hz w2)
    | (go_at_call 8; with_reducible refine (c3 _).mono ?_; rintro e w3 ⟨ao3, n3, c3', rfl, hb3⟩; have hb3' := next hb2' hb3; have hs3 := hs2.kept hb3; have hx3 := hx.kept hb3)
    | (go_at_call 14; with_reducible refine (c4 _ (T.kept hb3')).mono ?_; rintro e w4 ⟨rfl, hb4⟩; have hb4' := next hb3' hb4; obtain ⟨q0, q1, q2, q3⟩ := shp4_cells (hs3.kept hb4); obtain ⟨r0, r1, r2, r3⟩ := shp4_cells (hx3.kept hb4))
    | (go_at_call 16; with_reducible refine (c5 _ (T.kept hb4')).mono ?_; rintro e w5 ⟨rfl, hb5⟩))
  go_ret
  exact ⟨rfl, next hb4' hb5⟩
end Go.Proofs.YtfglbhdfdpnnfaaDoor
