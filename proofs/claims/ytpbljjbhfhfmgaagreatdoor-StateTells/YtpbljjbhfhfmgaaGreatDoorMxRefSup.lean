/- RefSup · RefSuq: these texts, one behind another. -/
import Derived.Test.YtpbljjbhfhfmgaaGreatDoorMxHandM
import Derived.Test.YtpbljjbhfhfmgaaGreatDoorMxNtP
import Derived.Test.YtpbljjbhfhfmgaaGreatDoorMxRefOf
import Derived.Test.YtpbljjbhfhfmgaaGreatDoorMxSeal
import Derived.LoopTactic
import Derived.WalkKit
import Derived.Lib.Strings
/- joistref17.Right, Write, Name, Mode by their contracts. -/
namespace Go.Proofs.YtpbljjbhfhfmgaaGreatDoor
set_option maxRecDepth 100000
open Go.RowKit
set_option linter.unusedVariables false
set_option linter.unusedSimpArgs false
set_option maxRecDepth 100000

theorem rhRight_any (s : Shp) (m b : Int) (w : World) :
    Calls Tryz.prog 49 #[.agg #[.int .i64 s.pg, .int .i64 s.sl, .int .i64 s.rt, .int .i64 s.rm], .int .i64 m, .int .i64 b] w fun e w' => e = .returned (.bool (hpB s m b)) ∧ Below w.heap.size w w' := by
  obtain ⟨pg, sl, rt, rm⟩ := s
  simp only
  have hb0 : Below w.heap.size w (w.alloc (.cells #[.int .i64 pg, .int .i64 sl, .int .i64 rt, .int .i64 rm] 23)) := (Below.refl _ _).alloc (Nat.le_refl _) _
  have hS := bxS4_new w ⟨pg, sl, rt, rm⟩
  have cR := rrightS_any pg sl rt rm (w.alloc (.cells #[.int .i64 pg, .int .i64 sl, .int .i64 rt, .int .i64 rm] 23))
  by_cases hR : ShR ⟨pg, sl, rt, rm⟩
  · rw [show shB ⟨pg, sl, rt, rm⟩ = true from decide_eq_true hR] at cR
    have fin : ∀ r : Bool, (MdP pg m b ↔ r = true) → Hid (hpB ⟨pg, sl, rt, rm⟩ m b = r) := fun r h => hid (by
      unfold hpB
      rw [Bool.eq_iff_iff, decide_eq_true_eq]
      exact ⟨fun k => h.1 k.2, fun k => ⟨hR, h.2 k⟩⟩)
    clear hR
    by_cases a1 : b < 0
    · have HF := fin false (by simp [MdP]; omega)
      clear fin
      go_enter Tryz.func49, Tryz.ntmps49
      go_wp2_with (first
        | (go_at_call 63; with_reducible refine cR.mono ?_; rintro e w1 ⟨rfl, hb1⟩; obtain ⟨q0, q1, q2, q3⟩ := (hS.kept hb1).cells))
      go_ret
      exact ⟨ret_bool HF.out.symm, next hb0 hb1⟩
    · by_cases a2 : pg < b
      · have HF := fin false (by simp [MdP]; omega)
        clear fin
        go_enter Tryz.func49, Tryz.ntmps49
        go_wp2_with (first
          | (go_at_call 63; with_reducible refine cR.mono ?_; rintro e w1 ⟨rfl, hb1⟩; obtain ⟨q0, q1, q2, q3⟩ := (hS.kept hb1).cells))
        go_ret
        exact ⟨ret_bool HF.out.symm, next hb0 hb1⟩
      · rcases nm_cases m with rfl | rfl | rfl | rfl | ⟨m1, m2, m3, m4⟩
        · have HF := fin (b == 0) (by simp [MdP]; omega)
          clear fin
          go_enter Tryz.func49, Tryz.ntmps49
          go_wp2_with (first
            | (go_at_call 63; with_reducible refine cR.mono ?_; rintro e w1 ⟨rfl, hb1⟩; obtain ⟨q0, q1, q2, q3⟩ := (hS.kept hb1).cells))
          go_ret
          exact ⟨ret_bool HF.out.symm, next hb0 hb1⟩
        · have HF := fin (b == pg) (by simp [MdP]; omega)
          clear fin
          go_enter Tryz.func49, Tryz.ntmps49
          go_wp2_with (first
            | (go_at_call 63; with_reducible refine cR.mono ?_; rintro e w1 ⟨rfl, hb1⟩; obtain ⟨q0, q1, q2, q3⟩ := (hS.kept hb1).cells))
          go_ret
          exact ⟨ret_bool HF.out.symm, next hb0 hb1⟩
        · have HF := fin true (by simp [MdP]; omega)
          clear fin
          go_enter Tryz.func49, Tryz.ntmps49
          go_wp2_with (first
            | (go_at_call 63; with_reducible refine cR.mono ?_; rintro e w1 ⟨rfl, hb1⟩; obtain ⟨q0, q1, q2, q3⟩ := (hS.kept hb1).cells))
          go_ret
          exact ⟨ret_bool HF.out.symm, next hb0 hb1⟩
        · have HF := fin true (by simp [MdP]; omega)
          clear fin
          go_enter Tryz.func49, Tryz.ntmps49
          go_wp2_with (first
            | (go_at_call 63; with_reducible refine cR.mono ?_; rintro e w1 ⟨rfl, hb1⟩; obtain ⟨q0, q1, q2, q3⟩ := (hS.kept hb1).cells))
          go_ret
          exact ⟨ret_bool HF.out.symm, next hb0 hb1⟩
        · have HF := fin false (by simp [MdP]; omega)
          have e1 : (m == 1) = false := by simpa using m1
          have e2 : (m == 2) = false := by simpa using m2
          have e3 : (m == 3) = false := by simpa using m3
          have e4 : (m == 4) = false := by simpa using m4
          clear fin
          go_enter Tryz.func49, Tryz.ntmps49
          go_wp2_with (first
            | (go_at_call 63; with_reducible refine cR.mono ?_; rintro e w1 ⟨rfl, hb1⟩; obtain ⟨q0, q1, q2, q3⟩ := (hS.kept hb1).cells))
          go_ret
          exact ⟨ret_bool HF.out.symm, next hb0 hb1⟩
  · rw [show shB ⟨pg, sl, rt, rm⟩ = false from decide_eq_false hR] at cR
    have HF : Hid (hpB ⟨pg, sl, rt, rm⟩ m b = false) := hid (decide_eq_false fun h => hR h.1)
    clear hR
    go_enter Tryz.func49, Tryz.ntmps49
    go_wp2_with (first
      | (go_at_call 63; with_reducible refine cR.mono ?_; rintro e w1 ⟨rfl, hb1⟩; obtain ⟨q0, q1, q2, q3⟩ := (hS.kept hb1).cells))
    go_ret
    exact ⟨ret_bool HF.out.symm, next hb0 hb1⟩
/-- Seven numbers in a row of their own. -/
theorem sl_seven (w : World) (x0 x1 x2 x3 x4 x5 x6 : Int) : Sl .i64 (w.alloc (.cells #[.int .i64 x0, .int .i64 x1, .int .i64 x2, .int .i64 x3, .int .i64 x4, .int .i64 x5, .int .i64 x6] 3)) (some ⟨w.heap.size, 0, none⟩) 7 7 [x0, x1, x2, x3, x4, x5, x6] := by
  refine ⟨rfl, Nat.le_refl _, (by intro h; cases h), fun _ => ⟨_, _, rfl, by simp, fun i hi => ?_⟩⟩
  obtain rfl | rfl | rfl | rfl | rfl | rfl | rfl : i = 0 ∨ i = 1 ∨ i = 2 ∨ i = 3 ∨ i = 4 ∨ i = 5 ∨ i = 6 := by omega
  all_goals simp
end Go.Proofs.YtpbljjbhfhfmgaaGreatDoor
/- joistref17.Mode by its contract. -/
namespace Go.Proofs.YtpbljjbhfhfmgaaGreatDoor
set_option maxRecDepth 100000
open Go.RowKit
set_option linter.unusedVariables false
set_option linter.unusedSimpArgs false
set_option maxRecDepth 100000

theorem nm_same (m : Int) (t : ByteArray) : ((nmT m).toList == t.toList) = decide (nmL m = t.data.toList) := by
  rw [Lib.toList_data, Lib.toList_data, Bool.eq_iff_iff, beq_iff_eq, decide_eq_true_eq]
  unfold nmT
  simp
theorem md_at {t : List UInt8} {k : Nat} (h1 : 1 ≤ k) (h2 : k ≤ 4) (h : nmL k = t) : mdN t = k ∧ mdB t = true := by
  obtain rfl | rfl | rfl | rfl : k = 1 ∨ k = 2 ∨ k = 3 ∨ k = 4 := by omega
  all_goals (subst h; decide)
theorem md_no {t : List UInt8} (h : ∀ k : Nat, 1 ≤ k → k < 5 → nmL k ≠ t) : mdN t = 0 ∧ mdB t = false := by
  have h1 := h 1 (by omega) (by omega)
  have h2 := h 2 (by omega) (by omega)
  have h3 := h 3 (by omega) (by omega)
  have h4 := h 4 (by omega) (by omega)
  have e : mdN t = 0 := by
    unfold mdN
    rw [if_neg (fun e => h1 (by rw [e]; decide)), if_neg (fun e => h2 (by rw [e]; decide)), if_neg (fun e => h3 (by rw [e]; decide)), if_neg (fun e => h4 (by rw [e]; decide))]
  refine ⟨e, ?_⟩
  unfold mdB
  rw [e]
  rfl
end Go.Proofs.YtpbljjbhfhfmgaaGreatDoor
