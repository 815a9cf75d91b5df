/- joistref17.Right, Write, Name, Mode by their contracts. -/
import Derived.Test.YtfglbhdfdpnnfaaDoorSupM
import Derived.Test.YtfglbhdfdpnnfaaDoorRefShp
import Derived.Test.YtfglbhdfdpnnfaaDoorRefOf
import Derived.Test.YtfglbhdfdpnnfaaDoorRefMark
namespace Go.Proofs.YtfglbhdfdpnnfaaDoor
set_option maxRecDepth 100000
open Go.RowKit
set_option linter.unusedVariables false
set_option linter.unusedSimpArgs false
set_option maxRecDepth 100000

theorem rhRight_any (s : Shp) (m b : Int) (w : World) :
    Calls Tryd.prog 19 #[.agg #[.int .i64 s.pg, .int .i64 s.sl, .int .i64 s.rt, .int .i64 s.rm], .int .i64 m, .int .i64 b] w fun e w' => e = .returned (.bool (hpB s m b)) ∧ Below w.heap.size w w' := by
  obtain ⟨pg, sl, rt, rm⟩ := s
  simp only
  have hb0 : Below w.heap.size w (w.alloc (.cells #[.int .i64 pg, .int .i64 sl, .int .i64 rt, .int .i64 rm] 23)) := (Below.refl _ _).alloc (Nat.le_refl _) _
  have hS := bxS4_new w ⟨pg, sl, rt, rm⟩
  have cR := rrightS_any pg sl rt rm (w.alloc (.cells #[.int .i64 pg, .int .i64 sl, .int .i64 rt, .int .i64 rm] 23))
  by_cases hR : ShR ⟨pg, sl, rt, rm⟩
  · rw [show shB ⟨pg, sl, rt, rm⟩ = true from decide_eq_true hR] at cR
    have fin : ∀ r : Bool, (MdP pg m b ↔ r = true) → Hid (hpB ⟨pg, sl, rt, rm⟩ m b = r) := fun r h => hid (by
      unfold hpB
      rw [Bool.eq_iff_iff, decide_eq_true_eq]
      exact ⟨fun k => h.1 k.2, fun k => ⟨hR, h.2 k⟩⟩)
    clear hR
    by_cases a1 : b < 0
    · have HF := fin false (by simp [MdP]; omega)
      clear fin
      go_enter Tryd.func19, Tryd.ntmps19
      go_wp2_with (first
        | (go_at_call 29; with_reducible refine cR.mono ?_; rintro e w1 ⟨rfl, hb1⟩; obtain ⟨q0, q1, q2, q3⟩ := (hS.kept hb1).cells))
      go_ret
      exact ⟨ret_bool HF.out.symm, next hb0 hb1⟩
    · by_cases a2 : pg < b
      · have HF := fin false (by simp [MdP]; omega)
        clear fin
        go_enter Tryd.func19, Tryd.ntmps19
        go_wp2_with (first
          | (go_at_call 29; with_reducible refine cR.mono ?_; rintro e w1 ⟨rfl, hb1⟩; obtain ⟨q0, q1, q2, q3⟩ := (hS.kept hb1).cells))
        go_ret
        exact ⟨ret_bool HF.out.symm, next hb0 hb1⟩
      · rcases nm_cases m with rfl | rfl | rfl | rfl | ⟨m1, m2, m3, m4⟩
        · have HF := fin (b == 0) (by simp [MdP]; omega)
          clear fin
          go_enter Tryd.func19, Tryd.ntmps19
          go_wp2_with (first
            | (go_at_call 29; with_reducible refine cR.mono ?_; rintro e w1 ⟨rfl, hb1⟩; obtain ⟨q0, q1, q2, q3⟩ := (hS.kept hb1).cells))
          go_ret
          exact ⟨ret_bool HF.out.symm, next hb0 hb1⟩
        · have HF := fin (b == pg) (by simp [MdP]; omega)
          clear fin
          go_enter Tryd.func19, Tryd.ntmps19
          go_wp2_with (first
            | (go_at_call 29; with_reducible refine cR.mono ?_; rintro e w1 ⟨rfl, hb1⟩; obtain ⟨q0, q1, q2, q3⟩ := (hS.kept hb1).cells))
          go_ret
          exact ⟨ret_bool HF.out.symm, next hb0 hb1⟩
        · have HF := fin true (by simp [MdP]; omega)
          clear fin
          go_enter Tryd.func19, Tryd.ntmps19
          go_wp2_with (first
            | (go_at_call 29; with_reducible refine cR.mono ?_; rintro e w1 ⟨rfl, hb1⟩; obtain ⟨q0, q1, q2, q3⟩ := (hS.kept hb1).cells))
          go_ret
          exact ⟨ret_bool HF.out.symm, next hb0 hb1⟩
        · have HF := fin true (by simp [MdP]; omega)
          clear fin
          go_enter Tryd.func19, Tryd.ntmps19
          go_wp2_with (first
            | (go_at_call 29; with_reducible refine cR.mono ?_; rintro e w1 ⟨rfl, hb1⟩; obtain ⟨q0, q1, q2, q3⟩ := (hS.kept hb1).cells))
          go_ret
          exact ⟨ret_bool HF.out.symm, next hb0 hb1⟩
        · have HF := fin false (by simp [MdP]; omega)
          have e1 : (m == 1) = false := by simpa using m1
          have e2 : (m == 2) = false := by simpa using m2
          have e3 : (m == 3) = false := by simpa using m3
          have e4 : (m == 4) = false := by simpa using m4
          clear fin
          go_enter Tryd.func19, Tryd.ntmps19
          go_wp2_with (first
            | (go_at_call 29; with_reducible refine cR.mono ?_; rintro e w1 ⟨rfl, hb1⟩; obtain ⟨q0, q1, q2, q3⟩ := (hS.kept hb1).cells))
          go_ret
          exact ⟨ret_bool HF.out.symm, next hb0 hb1⟩
  · rw [show shB ⟨pg, sl, rt, rm⟩ = false from decide_eq_false hR] at cR
    have HF : Hid (hpB ⟨pg, sl, rt, rm⟩ m b = false) := hid (decide_eq_false fun h => hR h.1)
    clear hR
    go_enter Tryd.func19, Tryd.ntmps19
    go_wp2_with (first
      | (go_at_call 29; with_reducible refine cR.mono ?_; rintro e w1 ⟨rfl, hb1⟩; obtain ⟨q0, q1, q2, q3⟩ := (hS.kept hb1).cells))
    go_ret
    exact ⟨ret_bool HF.out.symm, next hb0 hb1⟩
theorem rhName_any (m : Int) (w : World) :
    Calls Tryd.prog 17 #[.int .i64 m] w fun e w' => e = .returned (.string (nmT m)) ∧ w = w' := by
  rcases nm_cases m with rfl | rfl | rfl | rfl | h
  · rw [show nmT 1 = ⟨#[111, 110, 101]⟩ from rfl]
    go_enter Tryd.func17, Tryd.ntmps17
    go_wp2
    go_ret
    exact ⟨rfl, rfl⟩
  · rw [show nmT 2 = ⟨#[116, 119, 111]⟩ from rfl]
    go_enter Tryd.func17, Tryd.ntmps17
    go_wp2
    go_ret
    exact ⟨rfl, rfl⟩
  · rw [show nmT 3 = ⟨#[117, 112]⟩ from rfl]
    go_enter Tryd.func17, Tryd.ntmps17
    go_wp2
    go_ret
    exact ⟨rfl, rfl⟩
  · rw [show nmT 4 = ⟨#[100, 111, 119, 110]⟩ from rfl]
    go_enter Tryd.func17, Tryd.ntmps17
    go_wp2
    go_ret
    exact ⟨rfl, rfl⟩
  · rw [show nmT m = ⟨#[]⟩ by unfold nmT; rw [nmL_0 h]]
    obtain ⟨m1, m2, m3, m4⟩ := h
    have e1 : (m == 1) = false := by simpa using m1
    have e2 : (m == 2) = false := by simpa using m2
    have e3 : (m == 3) = false := by simpa using m3
    have e4 : (m == 4) = false := by simpa using m4
    go_enter Tryd.func17, Tryd.ntmps17
    go_wp2
    go_ret
    exact ⟨rfl, rfl⟩
/-- Seven numbers in a row of their own. -/
theorem sl_seven (w : World) (x0 x1 x2 x3 x4 x5 x6 : Int) : Sl .i64 (w.alloc (.cells #[.int .i64 x0, .int .i64 x1, .int .i64 x2, .int .i64 x3, .int .i64 x4, .int .i64 x5, .int .i64 x6] 3)) (some ⟨w.heap.size, 0, none⟩) 7 7 [x0, x1, x2, x3, x4, x5, x6] := by
  refine ⟨rfl, Nat.le_refl _, (by intro h; cases h), fun _ => ⟨_, _, rfl, by simp, fun i hi => ?_⟩⟩
  obtain rfl | rfl | rfl | rfl | rfl | rfl | rfl : i = 0 ∨ i = 1 ∨ i = 2 ∨ i = 3 ∨ i = 4 ∨ i = 5 ∨ i = 6 := by omega
  all_goals simp
theorem rhWrite_any (s : Shp) (m b : Int) (w : World) :
    Calls Tryd.prog 11 #[.agg #[.int .i64 s.pg, .int .i64 s.sl, .int .i64 s.rt, .int .i64 s.rm], .int .i64 m, .int .i64 b] w fun e w' => ∃ ao n c, e = .returned (.tuple #[.slice ao n c, .int .i64 (spE s m b)]) ∧ Own .u8 5 w.heap.size w' ao n c (sbL s m b) ∧ Below w.heap.size w w' := by
  have hb0 : Below w.heap.size w (w.alloc (.cells #[.int .i64 s.pg, .int .i64 s.sl, .int .i64 s.rt, .int .i64 s.rm] 23)) := (Below.refl _ _).alloc (Nat.le_refl _) _
  have hS := bxS4_new w s
  have cR := rhRight_any s m b (w.alloc (.cells #[.int .i64 s.pg, .int .i64 s.sl, .int .i64 s.rt, .int .i64 s.rm] 23))
  by_cases h : HdP s m b
  · obtain ⟨e1, e2, e3⟩ := sp_t h
    rw [e3] at cR
    rw [e1, e2]
    have hok := h.ok
    have cO : ∀ w1, Calls Tryd.prog 23 #[.slice (some ⟨w1.heap.size, 0, none⟩) 7 7] (w1.alloc (.cells #[.int .i64 54238244327242, .int .i64 m, .int .i64 s.pg, .int .i64 s.sl, .int .i64 s.rt, .int .i64 s.rm, .int .i64 b] 3)) fun e w' => ∃ ao c, e = .returned (.tuple #[.slice ao 56 c, .int .i64 0]) ∧ Own .u8 5 w1.heap.size w' ao 56 c (ofL (spW s m b)) ∧ Below w1.heap.size w1 w' := fun w1 => by
      refine (refof_any _ 7 7 (spW s m b) _ (sl_seven w1 _ _ _ _ _ _ _) (by omega)).mono ?_
      rintro e w' ⟨ao, n, c, rfl, ho, hb⟩
      rw [ofR_t hok] at ho
      rw [ofE_t hok]
      obtain rfl : n = 56 := by rw [← ho.len, spW_len]
      have hba : Below w1.heap.size w1 (w1.alloc (.cells #[.int .i64 54238244327242, .int .i64 m, .int .i64 s.pg, .int .i64 s.sl, .int .i64 s.rt, .int .i64 s.rm, .int .i64 b] 3)) := (Below.refl _ _).alloc (Nat.le_refl _) _
      exact ⟨ao, c, rfl, ho.mono (by simp), next hba hb⟩
    have cS : ∀ ao c B w1, Own .u8 5 B w1 ao 56 c (ofL (spW s m b)) → Calls Tryd.prog 24 #[.slice ao 56 c] w1 fun e w' => ∃ bo c', e = .returned (.slice bo 64 c') ∧ Own .u8 5 w1.heap.size w' bo 64 c' (spY s m b) ∧ Below w1.heap.size w1 w' := fun ao c B w1 ho =>
      refseal_any ao 56 c _ w1 ho.sl (ofL_bytes _) (by omega)
    clear e1 e2 e3 h hok
    go_enter Tryd.func11, Tryd.ntmps11
    go_wp2_with (first
      | (go_at_call 19; with_reducible refine cR.mono ?_; rintro e w1 ⟨rfl, hb1⟩; obtain ⟨q0, q1, q2, q3⟩ := (hS.kept hb1).cells; have hb1' := next hb0 hb1)
      | (go_at_call 23; with_reducible refine (cO w1).mono ?_; rintro e w2 ⟨ao, c, rfl, ho2, hb2⟩; have hb2' := next hb1' hb2)
      | (go_at_call 24; with_reducible refine (cS _ _ _ _ ho2).mono ?_; rintro e w3 ⟨bo, c3, rfl, ho3, hb3⟩))
    go_ret2
    exact ⟨bo, 64, c3, rfl, ho3.mono hb2'.size, next hb2' hb3⟩
  · obtain ⟨e1, e2, e3⟩ := sp_f h
    rw [e3] at cR
    rw [e1, e2]
    clear e1 e2 e3 h
    go_enter Tryd.func11, Tryd.ntmps11
    go_wp2_with (first
      | (go_at_call 19; with_reducible refine cR.mono ?_; rintro e w1 ⟨rfl, hb1⟩; have hb1' := next hb0 hb1))
    go_ret2
    exact ⟨none, 0, 0, rfl, own_nil _ _ _ _, hb1'⟩
end Go.Proofs.YtfglbhdfdpnnfaaDoor
