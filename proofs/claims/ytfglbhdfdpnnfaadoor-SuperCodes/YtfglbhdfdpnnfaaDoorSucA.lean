/- super's isMode, baseMayBe, Right, Write and numbers by their contracts; what the seven numbers of a line tell, in plain words. -/
import Derived.Test.YtfglbhdfdpnnfaaDoorRefSur
import Derived.Test.YtfglbhdfdpnnfaaDoorShpCode
import Derived.Test.YtfglbhdfdpnnfaaDoorUnseal
import Derived.Test.YtfglbhdfdpnnfaaDoorAll
import Derived.Test.YtfglbhdfdpnnfaaDoorOf
import Derived.Test.YtfglbhdfdpnnfaaDoorSeal
namespace Go.Proofs.YtfglbhdfdpnnfaaDoor
set_option maxRecDepth 100000
open Go.RowKit
set_option linter.unusedVariables false
set_option linter.unusedSimpArgs false
set_option maxRecDepth 100000

/-- A mode's number. -/
def imB (m : Int) : Bool := decide (1 ≤ m ∧ m ≤ 4)
theorem isMode_any (m : Int) (w : World) :
    Calls Tryd.prog 26 #[.int .i64 m] w fun e w' => e = .returned (.bool (imB m)) ∧ w = w' := by
  by_cases h1 : 1 ≤ m
  · by_cases h2 : m ≤ 4
    · rw [show imB m = true from decide_eq_true ⟨h1, h2⟩]
      go_enter Tryd.func26, Tryd.ntmps26
      go_wp2
      go_ret
      exact ⟨rfl, rfl⟩
    · rw [show imB m = false from decide_eq_false (fun k => h2 k.2)]
      go_enter Tryd.func26, Tryd.ntmps26
      go_wp2
      go_ret
      exact ⟨rfl, rfl⟩
  · rw [show imB m = false from decide_eq_false (fun k => h1 k.1)]
    go_enter Tryd.func26, Tryd.ntmps26
    go_wp2
    go_ret
    exact ⟨rfl, rfl⟩
/-- A mode goes with a base. -/
def BmP (m b p : Int) : Prop := (m = 1 ∧ b = 0) ∨ (m = 2 ∧ b = p) ∨ ((m = 3 ∨ m = 4) ∧ 0 ≤ b ∧ b ≤ p)
instance (m b p : Int) : Decidable (BmP m b p) := by unfold BmP; exact inferInstance
def bmB (m b p : Int) : Bool := decide (BmP m b p)
theorem hp_bm (s : Shp) (m b : Int) : hpB s m b = (shB s && bmB m b s.pg) := by
  unfold hpB bmB shB
  rw [Bool.eq_iff_iff, Bool.and_eq_true, decide_eq_true_eq, decide_eq_true_eq, decide_eq_true_eq]
  constructor
  · rintro ⟨h, h1, h2, h3⟩
    refine ⟨h, ?_⟩
    unfold BmP
    omega
  · rintro ⟨h, h1⟩
    have h2 := h.1
    unfold BmP at h1
    refine ⟨h, ?_⟩
    unfold MdP
    omega
theorem base_any (m b p : Int) (w : World) :
    Calls Tryd.prog 28 #[.int .i64 m, .int .i64 b, .int .i64 p] w fun e w' => e = .returned (.bool (bmB m b p)) ∧ w = w' := by
  rcases nm_cases m with rfl | rfl | rfl | rfl | ⟨h1, h2, h3, h4⟩
  · by_cases h : b = 0
    · rw [show bmB 1 b p = true from decide_eq_true (by unfold BmP; omega)]
      go_enter Tryd.func28, Tryd.ntmps28
      go_wp2
      go_ret
      exact ⟨rfl, rfl⟩
    · rw [show bmB 1 b p = false from decide_eq_false (by unfold BmP; omega)]
      go_enter Tryd.func28, Tryd.ntmps28
      go_wp2
      go_ret
      exact ⟨ret_bool (beq_false_of_ne h), rfl⟩
  · by_cases h : b = p
    · rw [show bmB 2 b p = true from decide_eq_true (by unfold BmP; omega)]
      go_enter Tryd.func28, Tryd.ntmps28
      go_wp2
      go_ret
      exact ⟨rfl, rfl⟩
    · rw [show bmB 2 b p = false from decide_eq_false (by unfold BmP; omega)]
      go_enter Tryd.func28, Tryd.ntmps28
      go_wp2
      go_ret
      exact ⟨ret_bool (beq_false_of_ne h), rfl⟩
  · by_cases h : 0 ≤ b
    · by_cases g : b ≤ p
      · rw [show bmB 3 b p = true from decide_eq_true (by unfold BmP; omega)]
        go_enter Tryd.func28, Tryd.ntmps28
        go_wp2
        go_ret
        exact ⟨rfl, rfl⟩
      · rw [show bmB 3 b p = false from decide_eq_false (by unfold BmP; omega)]
        go_enter Tryd.func28, Tryd.ntmps28
        go_wp2
        go_ret
        exact ⟨rfl, rfl⟩
    · rw [show bmB 3 b p = false from decide_eq_false (by unfold BmP; omega)]
      go_enter Tryd.func28, Tryd.ntmps28
      go_wp2
      go_ret
      exact ⟨rfl, rfl⟩
  · by_cases h : 0 ≤ b
    · by_cases g : b ≤ p
      · rw [show bmB 4 b p = true from decide_eq_true (by unfold BmP; omega)]
        go_enter Tryd.func28, Tryd.ntmps28
        go_wp2
        go_ret
        exact ⟨rfl, rfl⟩
      · rw [show bmB 4 b p = false from decide_eq_false (by unfold BmP; omega)]
        go_enter Tryd.func28, Tryd.ntmps28
        go_wp2
        go_ret
        exact ⟨rfl, rfl⟩
    · rw [show bmB 4 b p = false from decide_eq_false (by unfold BmP; omega)]
      go_enter Tryd.func28, Tryd.ntmps28
      go_wp2
      go_ret
      exact ⟨rfl, rfl⟩
  · rw [show bmB m b p = false from decide_eq_false (by unfold BmP; omega)]
    go_enter Tryd.func28, Tryd.ntmps28
    go_wp2
    go_ret
    exact ⟨rfl, rfl⟩
theorem suRight_any (s : Shp) (hs : ShG s) (m b : Int) (hm : Rg m) (hb : Rg b) (w : World) :
    Calls Tryd.prog 18 #[.agg #[.int .i64 s.pg, .int .i64 s.sl, .int .i64 s.rt, .int .i64 s.rm], .int .i64 m, .int .i64 b] w fun e w' => e = .returned (.bool (hpB s m b)) ∧ Below w.heap.size w w' := by
  have hb0 : Below w.heap.size w (w.alloc (.cells #[.int .i64 s.pg, .int .i64 s.sl, .int .i64 s.rt, .int .i64 s.rm] 23)) := (Below.refl _ _).alloc (Nat.le_refl _) _
  have hS := bxS4_new w s
  have cR := shRight_any s hs (w.alloc (.cells #[.int .i64 s.pg, .int .i64 s.sl, .int .i64 s.rt, .int .i64 s.rm] 23))
  have cB : ∀ w1, _ := fun w1 => base_any m b s.pg w1
  rw [hp_bm]
  generalize shB s = x at *
  generalize bmB m b s.pg = y at *
  clear hm hb hs
  cases x
  · simp only [Bool.false_and]
    go_enter Tryd.func18, Tryd.ntmps18
    go_wp2_with (first
      | (go_at_call 27; with_reducible refine cR.mono ?_; rintro e w1 ⟨rfl, hb1⟩; obtain ⟨q0, q1, q2, q3⟩ := (hS.kept hb1).cells)
      | (go_at_call 28; with_reducible refine (cB _).mono ?_; rintro e w2 ⟨rfl, rfl⟩))
    go_ret
    exact ⟨rfl, next hb0 hb1⟩
  · simp only [Bool.true_and]
    go_enter Tryd.func18, Tryd.ntmps18
    go_wp2_with (first
      | (go_at_call 27; with_reducible refine cR.mono ?_; rintro e w1 ⟨rfl, hb1⟩; obtain ⟨q0, q1, q2, q3⟩ := (hS.kept hb1).cells)
      | (go_at_call 28; with_reducible refine (cB _).mono ?_; rintro e w2 ⟨rfl, rfl⟩))
    go_ret
    exact ⟨rfl, next hb0 hb1⟩
theorem suWrite_any (s : Shp) (hs : ShG s) (m b : Int) (hm : Rg m) (hb : Rg b) (w : World) :
    Calls Tryd.prog 8 #[.agg #[.int .i64 s.pg, .int .i64 s.sl, .int .i64 s.rt, .int .i64 s.rm], .int .i64 m, .int .i64 b] w fun e w' => ∃ ao n c, e = .returned (.tuple #[.slice ao n c, .int .i64 (spE s m b)]) ∧ Own .u8 5 w.heap.size w' ao n c (sbL s m b) ∧ Below w.heap.size w w' := by
  have hb0 : Below w.heap.size w (w.alloc (.cells #[.int .i64 s.pg, .int .i64 s.sl, .int .i64 s.rt, .int .i64 s.rm] 23)) := (Below.refl _ _).alloc (Nat.le_refl _) _
  have hS := bxS4_new w s
  have cR := suRight_any s hs m b hm hb (w.alloc (.cells #[.int .i64 s.pg, .int .i64 s.sl, .int .i64 s.rt, .int .i64 s.rm] 23))
  clear hs hm hb
  by_cases h : HdP s m b
  · obtain ⟨e1, e2, e3⟩ := sp_t h
    rw [e3] at cR
    rw [e1, e2]
    have hok := h.ok
    have cO : ∀ w1, Calls Tryd.prog 20 #[.slice (some ⟨w1.heap.size, 0, none⟩) 7 7] (w1.alloc (.cells #[.int .i64 54238244327242, .int .i64 m, .int .i64 s.pg, .int .i64 s.sl, .int .i64 s.rt, .int .i64 s.rm, .int .i64 b] 3)) fun e w' => ∃ ao c, e = .returned (.tuple #[.slice ao 56 c, .int .i64 0]) ∧ Own .u8 5 w1.heap.size w' ao 56 c (ofL (spW s m b)) ∧ Below w1.heap.size w1 w' := fun w1 => by
      refine (of_any _ 7 7 (spW s m b) _ (sl_seven w1 _ _ _ _ _ _ _) (by omega)).mono ?_
      rintro e w' ⟨ao, n, c, rfl, ho, hb⟩
      rw [ofR_t hok] at ho
      rw [ofE_t hok]
      obtain rfl : n = 56 := by rw [← ho.len, spW_len]
      have hba : Below w1.heap.size w1 (w1.alloc (.cells #[.int .i64 54238244327242, .int .i64 m, .int .i64 s.pg, .int .i64 s.sl, .int .i64 s.rt, .int .i64 s.rm, .int .i64 b] 3)) := (Below.refl _ _).alloc (Nat.le_refl _) _
      exact ⟨ao, c, rfl, ho.mono (by simp), next hba hb⟩
    have cS : ∀ ao c B w1, Own .u8 5 B w1 ao 56 c (ofL (spW s m b)) → Calls Tryd.prog 21 #[.slice ao 56 c] w1 fun e w' => ∃ bo c', e = .returned (.slice bo 64 c') ∧ Own .u8 5 w1.heap.size w' bo 64 c' (spY s m b) ∧ Below w1.heap.size w1 w' := fun ao c B w1 ho =>
      seal_any ao 56 c _ w1 ho.sl (ofL_bytes _) (by omega)
    clear e1 e2 e3 h hok
    go_enter Tryd.func8, Tryd.ntmps8
    go_wp2_with (first
      | (go_at_call 18; with_reducible refine cR.mono ?_; rintro e w1 ⟨rfl, hb1⟩; obtain ⟨q0, q1, q2, q3⟩ := (hS.kept hb1).cells; have hb1' := next hb0 hb1)
      | (go_at_call 20; with_reducible refine (cO w1).mono ?_; rintro e w2 ⟨ao, c, rfl, ho2, hb2⟩; have hb2' := next hb1' hb2)
      | (go_at_call 21; with_reducible refine (cS _ _ _ _ ho2).mono ?_; rintro e w3 ⟨bo, c3, rfl, ho3, hb3⟩))
    go_ret2
    exact ⟨bo, 64, c3, rfl, ho3.mono hb2'.size, next hb2' hb3⟩
  · obtain ⟨e1, e2, e3⟩ := sp_f h
    rw [e3] at cR
    rw [e1, e2]
    clear e1 e2 e3 h
    go_enter Tryd.func8, Tryd.ntmps8
    go_wp2_with (first
      | (go_at_call 18; with_reducible refine cR.mono ?_; rintro e w1 ⟨rfl, hb1⟩; have hb1' := next hb0 hb1))
    go_ret2
    exact ⟨none, 0, 0, rfl, own_nil _ _ _ _, hb1'⟩
end Go.Proofs.YtfglbhdfdpnnfaaDoor
