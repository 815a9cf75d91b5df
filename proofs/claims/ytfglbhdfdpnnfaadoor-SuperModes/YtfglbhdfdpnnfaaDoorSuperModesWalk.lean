/- joistlaw17.SuperModes is true. -/
import Derived.Test.YtfglbhdfdpnnfaaDoorSmallSup
namespace Go.Proofs.YtfglbhdfdpnnfaaDoor
set_option maxRecDepth 100000
open Go.RowKit
set_option linter.unusedVariables false
set_option linter.unusedSimpArgs false
set_option maxRecDepth 100000

theorem superModes_walk (w : World) (T : Nms w) (s : Shp) (hs : ShG s) (m : Int) (hmw : (Lit.int .i64 m).wf = true) (b : Int) (hbw : (Lit.int .i64 b).wf = true) :
    Calls Tryd.prog 5 #[.agg #[.int .i64 s.pg, .int .i64 s.sl, .int .i64 s.rt, .int .i64 s.rm], .int .i64 m, .int .i64 b] w fun e w' => e = .returned (.bool true) ∧ Below w.heap.size w w' := by
  have hb0 : Below w.heap.size w (w.alloc (.cells #[.int .i64 s.pg, .int .i64 s.sl, .int .i64 s.rt, .int .i64 s.rm] 23)) := (Below.refl _ _).alloc (Nat.le_refl _) _
  have hS := bxS4_new w s
  have hm : Rg m := bounds_i64 hmw
  have hb : Rg b := bounds_i64 hbw
  have cS := smallU_any (w.alloc (.cells #[.int .i64 s.pg, .int .i64 s.sl, .int .i64 s.rt, .int .i64 s.rm] 23)) (T.kept hb0)
  have c1 : ∀ w1, _ := fun w1 => suRight_any s hs 1 0 ⟨by decide, by decide⟩ ⟨by decide, by decide⟩ w1
  have c2 : ∀ w1, _ := fun w1 => suRight_any s hs m b hm hb w1
  clear hmw hbw hm hb
  by_cases hR : ShR s
  · have h1 : hpB s 1 0 = true := decide_eq_true ⟨hR, by omega, by have := hR.1.1; omega, .inl ⟨rfl, rfl⟩⟩
    rw [h1] at c1
    have fin : ∀ r : Bool, (MdP s.pg m b ↔ r = true) → hpB s m b = r := fun r h => by
      unfold hpB
      rw [Bool.eq_iff_iff, decide_eq_true_eq]
      exact ⟨fun k => h.1 k.2, fun k => ⟨hR, h.2 k⟩⟩
    have hpg := hR.1.1
    clear h1 hR
    by_cases a1 : 0 ≤ b
    · by_cases a2 : b ≤ s.pg
      · rcases nm_cases m with rfl | rfl | rfl | rfl | ⟨m1, m2, m3, m4⟩
        · by_cases a3 : b = 0
          · have HF := fin true (by simp [MdP]; omega)
            rw [HF] at c2
            subst a3
            clear HF fin
            go_enter Tryd.func5, Tryd.ntmps5
            go_wp2_with (first
              | (go_at_call 6; with_reducible refine cS.mono ?_; rintro e w1 ⟨rfl, hb1⟩; have hb1' := next hb0 hb1; have hs1 := hS.kept hb1; obtain ⟨q0, q1, q2, q3⟩ := hs1.cells)
              | (go_at_call 18; with_reducible refine (c1 w1).mono ?_; rintro e w2 ⟨rfl, hb2⟩; have hb2' := next hb1' hb2; have hs2 := hs1.kept hb2; obtain ⟨q0, q1, q2, q3⟩ := hs2.cells)
              | (go_at_call 18; with_reducible refine (c2 w2).mono ?_; rintro e w3 ⟨rfl, hb3⟩; have hb3' := next hb2' hb3; obtain ⟨q0, q1, q2, q3⟩ := (hs2.kept hb3).cells))
            go_ret
            exact ⟨rfl, hb3'⟩
          · have HF := fin false (by simp [MdP]; omega)
            rw [HF] at c2
            have a4 : (b == 0) = false := by simpa using a3
            clear HF fin
            go_enter Tryd.func5, Tryd.ntmps5
            go_wp2_with (first
              | (go_at_call 6; with_reducible refine cS.mono ?_; rintro e w1 ⟨rfl, hb1⟩; have hb1' := next hb0 hb1; have hs1 := hS.kept hb1; obtain ⟨q0, q1, q2, q3⟩ := hs1.cells)
              | (go_at_call 18; with_reducible refine (c1 w1).mono ?_; rintro e w2 ⟨rfl, hb2⟩; have hb2' := next hb1' hb2; have hs2 := hs1.kept hb2; obtain ⟨q0, q1, q2, q3⟩ := hs2.cells)
              | (go_at_call 18; with_reducible refine (c2 w2).mono ?_; rintro e w3 ⟨rfl, hb3⟩; have hb3' := next hb2' hb3; obtain ⟨q0, q1, q2, q3⟩ := (hs2.kept hb3).cells))
            go_ret
            exact ⟨rfl, hb3'⟩
        · by_cases a3 : b = s.pg
          · have HF := fin true (by simp [MdP]; omega)
            rw [HF] at c2
            have a4 : (b == s.pg) = true := by simpa using a3
            clear HF fin a3
            go_enter Tryd.func5, Tryd.ntmps5
            go_wp2_with (first
              | (go_at_call 6; with_reducible refine cS.mono ?_; rintro e w1 ⟨rfl, hb1⟩; have hb1' := next hb0 hb1; have hs1 := hS.kept hb1; obtain ⟨q0, q1, q2, q3⟩ := hs1.cells)
              | (go_at_call 18; with_reducible refine (c1 w1).mono ?_; rintro e w2 ⟨rfl, hb2⟩; have hb2' := next hb1' hb2; have hs2 := hs1.kept hb2; obtain ⟨q0, q1, q2, q3⟩ := hs2.cells)
              | (go_at_call 18; with_reducible refine (c2 w2).mono ?_; rintro e w3 ⟨rfl, hb3⟩; have hb3' := next hb2' hb3; obtain ⟨q0, q1, q2, q3⟩ := (hs2.kept hb3).cells))
            go_ret
            exact ⟨rfl, hb3'⟩
          · have HF := fin false (by simp [MdP]; omega)
            rw [HF] at c2
            have a4 : (b == s.pg) = false := by simpa using a3
            clear HF fin a3
            go_enter Tryd.func5, Tryd.ntmps5
            go_wp2_with (first
              | (go_at_call 6; with_reducible refine cS.mono ?_; rintro e w1 ⟨rfl, hb1⟩; have hb1' := next hb0 hb1; have hs1 := hS.kept hb1; obtain ⟨q0, q1, q2, q3⟩ := hs1.cells)
              | (go_at_call 18; with_reducible refine (c1 w1).mono ?_; rintro e w2 ⟨rfl, hb2⟩; have hb2' := next hb1' hb2; have hs2 := hs1.kept hb2; obtain ⟨q0, q1, q2, q3⟩ := hs2.cells)
              | (go_at_call 18; with_reducible refine (c2 w2).mono ?_; rintro e w3 ⟨rfl, hb3⟩; have hb3' := next hb2' hb3; obtain ⟨q0, q1, q2, q3⟩ := (hs2.kept hb3).cells))
            go_ret
            exact ⟨rfl, hb3'⟩
        · have HF := fin true (by simp [MdP]; omega)
          rw [HF] at c2
          clear HF fin
          go_enter Tryd.func5, Tryd.ntmps5
          go_wp2_with (first
            | (go_at_call 6; with_reducible refine cS.mono ?_; rintro e w1 ⟨rfl, hb1⟩; have hb1' := next hb0 hb1; have hs1 := hS.kept hb1; obtain ⟨q0, q1, q2, q3⟩ := hs1.cells)
            | (go_at_call 18; with_reducible refine (c1 w1).mono ?_; rintro e w2 ⟨rfl, hb2⟩; have hb2' := next hb1' hb2; have hs2 := hs1.kept hb2; obtain ⟨q0, q1, q2, q3⟩ := hs2.cells)
            | (go_at_call 18; with_reducible refine (c2 w2).mono ?_; rintro e w3 ⟨rfl, hb3⟩; have hb3' := next hb2' hb3; obtain ⟨q0, q1, q2, q3⟩ := (hs2.kept hb3).cells))
          go_ret
          exact ⟨rfl, hb3'⟩
        · have HF := fin true (by simp [MdP]; omega)
          rw [HF] at c2
          clear HF fin
          go_enter Tryd.func5, Tryd.ntmps5
          go_wp2_with (first
            | (go_at_call 6; with_reducible refine cS.mono ?_; rintro e w1 ⟨rfl, hb1⟩; have hb1' := next hb0 hb1; have hs1 := hS.kept hb1; obtain ⟨q0, q1, q2, q3⟩ := hs1.cells)
            | (go_at_call 18; with_reducible refine (c1 w1).mono ?_; rintro e w2 ⟨rfl, hb2⟩; have hb2' := next hb1' hb2; have hs2 := hs1.kept hb2; obtain ⟨q0, q1, q2, q3⟩ := hs2.cells)
            | (go_at_call 18; with_reducible refine (c2 w2).mono ?_; rintro e w3 ⟨rfl, hb3⟩; have hb3' := next hb2' hb3; obtain ⟨q0, q1, q2, q3⟩ := (hs2.kept hb3).cells))
          go_ret
          exact ⟨rfl, hb3'⟩
        · have HF := fin false (by simp [MdP]; omega)
          rw [HF] at c2
          have e1 : (m == 1) = false := by simpa using m1
          have e2 : (m == 2) = false := by simpa using m2
          have e3 : (m == 3) = false := by simpa using m3
          have e4 : (m == 4) = false := by simpa using m4
          clear HF fin
          go_enter Tryd.func5, Tryd.ntmps5
          go_wp2_with (first
            | (go_at_call 6; with_reducible refine cS.mono ?_; rintro e w1 ⟨rfl, hb1⟩; have hb1' := next hb0 hb1; have hs1 := hS.kept hb1; obtain ⟨q0, q1, q2, q3⟩ := hs1.cells)
            | (go_at_call 18; with_reducible refine (c1 w1).mono ?_; rintro e w2 ⟨rfl, hb2⟩; have hb2' := next hb1' hb2; have hs2 := hs1.kept hb2; obtain ⟨q0, q1, q2, q3⟩ := hs2.cells)
            | (go_at_call 18; with_reducible refine (c2 w2).mono ?_; rintro e w3 ⟨rfl, hb3⟩; have hb3' := next hb2' hb3; obtain ⟨q0, q1, q2, q3⟩ := (hs2.kept hb3).cells))
          go_ret
          exact ⟨rfl, hb3'⟩
      · have HF := fin false (by simp [MdP]; omega)
        rw [HF] at c2
        clear HF fin
        go_enter Tryd.func5, Tryd.ntmps5
        go_wp2_with (first
          | (go_at_call 6; with_reducible refine cS.mono ?_; rintro e w1 ⟨rfl, hb1⟩; have hb1' := next hb0 hb1; have hs1 := hS.kept hb1; obtain ⟨q0, q1, q2, q3⟩ := hs1.cells)
          | (go_at_call 18; with_reducible refine (c1 w1).mono ?_; rintro e w2 ⟨rfl, hb2⟩; have hb2' := next hb1' hb2; have hs2 := hs1.kept hb2; obtain ⟨q0, q1, q2, q3⟩ := hs2.cells)
          | (go_at_call 18; with_reducible refine (c2 w2).mono ?_; rintro e w3 ⟨rfl, hb3⟩; have hb3' := next hb2' hb3; obtain ⟨q0, q1, q2, q3⟩ := (hs2.kept hb3).cells))
        go_ret
        exact ⟨rfl, hb3'⟩
    · have HF := fin false (by simp [MdP]; omega)
      rw [HF] at c2
      clear HF fin
      go_enter Tryd.func5, Tryd.ntmps5
      go_wp2_with (first
        | (go_at_call 6; with_reducible refine cS.mono ?_; rintro e w1 ⟨rfl, hb1⟩; have hb1' := next hb0 hb1; have hs1 := hS.kept hb1; obtain ⟨q0, q1, q2, q3⟩ := hs1.cells)
        | (go_at_call 18; with_reducible refine (c1 w1).mono ?_; rintro e w2 ⟨rfl, hb2⟩; have hb2' := next hb1' hb2; have hs2 := hs1.kept hb2; obtain ⟨q0, q1, q2, q3⟩ := hs2.cells)
        | (go_at_call 18; with_reducible refine (c2 w2).mono ?_; rintro e w3 ⟨rfl, hb3⟩; have hb3' := next hb2' hb3; obtain ⟨q0, q1, q2, q3⟩ := (hs2.kept hb3).cells))
      go_ret
      exact ⟨rfl, hb3'⟩
  · rw [show hpB s 1 0 = false from decide_eq_false fun h => hR h.1] at c1
    rw [show hpB s m b = false from decide_eq_false fun h => hR h.1] at c2
    clear hR
    go_enter Tryd.func5, Tryd.ntmps5
    go_wp2_with (first
      | (go_at_call 6; with_reducible refine cS.mono ?_; rintro e w1 ⟨rfl, hb1⟩; have hb1' := next hb0 hb1; have hs1 := hS.kept hb1; obtain ⟨q0, q1, q2, q3⟩ := hs1.cells)
      | (go_at_call 18; with_reducible refine (c1 w1).mono ?_; rintro e w2 ⟨rfl, hb2⟩; have hb2' := next hb1' hb2; have hs2 := hs1.kept hb2; obtain ⟨q0, q1, q2, q3⟩ := hs2.cells)
      | (go_at_call 18; with_reducible refine (c2 w2).mono ?_; rintro e w3 ⟨rfl, hb3⟩; have hb3' := next hb2' hb3; obtain ⟨q0, q1, q2, q3⟩ := (hs2.kept hb3).cells))
    go_ret
    exact ⟨rfl, hb3'⟩
end Go.Proofs.YtfglbhdfdpnnfaaDoor
