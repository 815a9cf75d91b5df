/- shape.Right, Areas, Outside by their contracts. -/
import Derived.Test.YtgjigjjlkpkjeaaShcC
import Derived.Test.YtgjigjjlkpkjeaaRefShq
namespace Go.Proofs.Ytgjigjjlkpkjeaa
set_option maxRecDepth 100000
open Go.RowKit
set_option linter.unusedVariables false
set_option linter.unusedSimpArgs false
set_option maxRecDepth 100000

theorem shRight_any (s : Shp) (hs : ShG s) (w : World) :
    Calls Try.prog 9 #[.agg #[.int .i64 s.pg, .int .i64 s.sl, .int .i64 s.rt, .int .i64 s.rm]] w fun e w' => e = .returned (.bool (shB s)) ∧ Below w.heap.size w w' := by
  have hb0 : Below w.heap.size w (w.alloc (.cells #[.int .i64 s.pg, .int .i64 s.sl, .int .i64 s.rt, .int .i64 s.rm] 23)) := (Below.refl _ _).alloc (Nat.le_refl _) _
  have cR : ∀ w1, _ := fun w1 => areasOf_any s w1
  by_cases hR : ShR s
  · rw [show shB s = true from decide_eq_true hR]
    obtain ⟨e0, e1, e2, e3, e4, e5, e6, e7, e8, e9⟩ := ar_t hR
    rw [e0, e1, e2, e3, e4, e5, e6, e7, e8] at cR
    clear e0 e1 e2 e3 e4 e5 e6 e7 e8 e9 hR
    generalize lnN s = LN at *
    generalize hdN s = HD at *
    generalize tbN s = TB at *
    generalize rtN s = RT at *
    generalize trN s = TR at *
    generalize hpN s = HP at *
    go_enter Try.func9, Try.ntmps9
    go_wp2_with (first
      | (go_at_call 15; with_reducible refine (cR _).mono ?_; rintro e w1 ⟨rfl, hb1⟩))
    go_ret
    exact ⟨rfl, next hb0 hb1⟩
  · rw [show shB s = false from decide_eq_false hR]
    obtain ⟨e0, e1, e2, e3, e4, e5, e6, e7, e8, e9⟩ := ar_f hR
    rw [e0, e1, e2, e3, e4, e5, e6, e7, e8] at cR
    clear e0 e1 e2 e3 e4 e5 e6 e7 e8 e9 hR
    go_enter Try.func9, Try.ntmps9
    go_wp2_with (first
      | (go_at_call 15; with_reducible refine (cR _).mono ?_; rintro e w1 ⟨rfl, hb1⟩))
    go_ret
    exact ⟨rfl, next hb0 hb1⟩
theorem shAreas_any (s : Shp) (hs : ShG s) (w : World) :
    Calls Try.prog 7 #[.agg #[.int .i64 s.pg, .int .i64 s.sl, .int .i64 s.rt, .int .i64 s.rm]] w fun e w' => e = .returned (.tuple #[.agg #[.int .i64 (ar0 s), .int .i64 (ar1 s), .int .i64 (ar2 s), .int .i64 (ar3 s), .int .i64 (ar4 s), .int .i64 (ar5 s), .int .i64 (ar6 s), .int .i64 (ar7 s), .int .i64 (ar8 s)], .int .i64 (arE s)]) ∧ Below w.heap.size w w' := by
  have hb0 : Below w.heap.size w (w.alloc (.cells #[.int .i64 s.pg, .int .i64 s.sl, .int .i64 s.rt, .int .i64 s.rm] 23)) := (Below.refl _ _).alloc (Nat.le_refl _) _
  have hb1 := hb0.alloc (o := .cells #[.int .i64 0, .int .i64 0, .int .i64 0, .int .i64 0, .int .i64 0, .int .i64 0, .int .i64 0, .int .i64 0, .int .i64 0] 28) (by simp)
  have hS := (bxS4_new w s).more (.cells #[.int .i64 0, .int .i64 0, .int .i64 0, .int .i64 0, .int .i64 0, .int .i64 0, .int .i64 0, .int .i64 0, .int .i64 0] 28)
  have hA := bxA_new (w.alloc (.cells #[.int .i64 s.pg, .int .i64 s.sl, .int .i64 s.rt, .int .i64 s.rm] 23)) Ars.z
  have cA := areasOf_any s ((w.alloc (.cells #[.int .i64 s.pg, .int .i64 s.sl, .int .i64 s.rt, .int .i64 s.rm] 23)).alloc (.cells #[.int .i64 0, .int .i64 0, .int .i64 0, .int .i64 0, .int .i64 0, .int .i64 0, .int .i64 0, .int .i64 0, .int .i64 0] 28))
  have HW : Hid (∀ w1, Below ((w.alloc (.cells #[.int .i64 s.pg, .int .i64 s.sl, .int .i64 s.rt, .int .i64 s.rm] 23)).alloc (.cells #[.int .i64 0, .int .i64 0, .int .i64 0, .int .i64 0, .int .i64 0, .int .i64 0, .int .i64 0, .int .i64 0, .int .i64 0] 28)).heap.size ((w.alloc (.cells #[.int .i64 s.pg, .int .i64 s.sl, .int .i64 s.rt, .int .i64 s.rm] 23)).alloc (.cells #[.int .i64 0, .int .i64 0, .int .i64 0, .int .i64 0, .int .i64 0, .int .i64 0, .int .i64 0, .int .i64 0, .int .i64 0] 28)) w1 → BxS4 w1 w.heap.size s ∧ BxA w1 (w.heap.size + 1) Ars.z ∧ Below w.heap.size w w1) := hid (fun w1 hb => by
    have e : (w.alloc (.cells #[.int .i64 s.pg, .int .i64 s.sl, .int .i64 s.rt, .int .i64 s.rm] 23)).heap.size = w.heap.size + 1 := by simp
    rw [e] at hA
    exact ⟨hS.kept hb, hA.kept hb, next hb1 hb⟩)
  clear hS hA hb0 hb1
  by_cases hR : ShR s
  · obtain ⟨e0, e1, e2, e3, e4, e5, e6, e7, e8, e9⟩ := ar_t hR
    rw [e0, e1, e2, e3, e4, e5, e6, e7, e8] at cA
    rw [e0, e1, e2, e3, e4, e5, e6, e7, e8, e9]
    clear e0 e1 e2 e3 e4 e5 e6 e7 e8 e9 hR
    generalize lnN s = LN at *
    generalize hdN s = HD at *
    generalize tbN s = TB at *
    generalize rtN s = RT at *
    generalize trN s = TR at *
    generalize hpN s = HP at *
    go_enter Try.func7, Try.ntmps7
    go_wp2_with (first
      | (go_at_call 15; with_reducible refine cA.mono ?_; rintro e w1 ⟨rfl, hb1⟩; obtain ⟨hs1, ha1, hbw⟩ := HW.out w1 hb1; have hlt := ha1.lt; obtain ⟨s0, s1, s2, s3, s4, s5, s6, s7, s8⟩ := ha1.cells; have f0 := ha1.free 0; have f1 := ha1.free 1; have f2 := ha1.free 2; have f3 := ha1.free 3; have f4 := ha1.free 4; have f5 := ha1.free 5; have f6 := ha1.free 6; have f7 := ha1.free 7; have f8 := ha1.free 8))
    refine bodyPost_ret (v := .tuple #[.agg #[.int .i64 1, .int .i64 2, .int .i64 s.rm, .int .i64 HD, .int .i64 TB, .int .i64 RT, .int .i64 TR, .int .i64 HP, .int .i64 LN], .int .i64 0]) (by simp [results, Try.results7, go_sem, hlt, s0, s1, s2, s3, s4, s5, s6, s7, s8]) rfl ⟨rfl, ?_⟩
    have hsz := hbw.size
    refine Below.alloc ?_ (by simp; omega) _
    exact (((((((((hbw.setCell (by simp) _).setCell (by simp) _).setCell (by simp) _).setCell (by simp) _).setCell (by simp) _).setCell (by simp) _).setCell (by simp) _).setCell (by simp) _).setCell (by simp) _)
  · obtain ⟨e0, e1, e2, e3, e4, e5, e6, e7, e8, e9⟩ := ar_f hR
    rw [e0, e1, e2, e3, e4, e5, e6, e7, e8] at cA
    rw [e0, e1, e2, e3, e4, e5, e6, e7, e8, e9]
    clear e0 e1 e2 e3 e4 e5 e6 e7 e8 e9 hR
    go_enter Try.func7, Try.ntmps7
    go_wp2_with (first
      | (go_at_call 15; with_reducible refine cA.mono ?_; rintro e w1 ⟨rfl, hb1⟩; obtain ⟨hs1, ha1, hbw⟩ := HW.out w1 hb1; have hlt := ha1.lt; obtain ⟨s0, s1, s2, s3, s4, s5, s6, s7, s8⟩ := ha1.cells; have f0 := ha1.free 0; have f1 := ha1.free 1; have f2 := ha1.free 2; have f3 := ha1.free 3; have f4 := ha1.free 4; have f5 := ha1.free 5; have f6 := ha1.free 6; have f7 := ha1.free 7; have f8 := ha1.free 8))
    refine bodyPost_ret (v := .tuple #[.agg #[.int .i64 0, .int .i64 0, .int .i64 0, .int .i64 0, .int .i64 0, .int .i64 0, .int .i64 0, .int .i64 0, .int .i64 0], .int .i64 1]) (by simp [results, Try.results7, go_sem, hlt, s0, s1, s2, s3, s4, s5, s6, s7, s8]) rfl ⟨rfl, ?_⟩
    have hsz := hbw.size
    refine Below.alloc ?_ (by simp; omega) _
    exact (((((((((hbw.setCell (by simp) _).setCell (by simp) _).setCell (by simp) _).setCell (by simp) _).setCell (by simp) _).setCell (by simp) _).setCell (by simp) _).setCell (by simp) _).setCell (by simp) _)
theorem shOut_any (s : Shp) (hs : ShG s) (line : Int) (hl : Rg line) (w : World) :
    Calls Try.prog 11 #[.agg #[.int .i64 s.pg, .int .i64 s.sl, .int .i64 s.rt, .int .i64 s.rm], .int .i64 line] w fun e w' => e = .returned (.bool (outB s line)) ∧ Below w.heap.size w w' := by
  have hb0 : Below w.heap.size w (w.alloc (.cells #[.int .i64 s.pg, .int .i64 s.sl, .int .i64 s.rt, .int .i64 s.rm] 23)) := (Below.refl _ _).alloc (Nat.le_refl _) _
  have cA := areasOf_any s (w.alloc (.cells #[.int .i64 s.pg, .int .i64 s.sl, .int .i64 s.rt, .int .i64 s.rm] 23))
  have HB : Hid (∀ w1, Below (w.alloc (.cells #[.int .i64 s.pg, .int .i64 s.sl, .int .i64 s.rt, .int .i64 s.rm] 23)).heap.size (w.alloc (.cells #[.int .i64 s.pg, .int .i64 s.sl, .int .i64 s.rt, .int .i64 s.rm] 23)) w1 → ∀ o, Below w.heap.size w (w1.alloc o)) := hid (fun w1 hb o => by
    have h := next hb0 hb
    exact h.alloc h.size _)
  clear hb0
  by_cases hR : ShR s
  · have hlog := hR.log.2.2 line
    have hrm := hR.room
    have hr1 := hR.2.2.2.1
    have cM : ∀ w1, _ := fun w1 => mine_any 1 2 s.rm line w1 ⟨(show Rg 1 by unfold Rg; omega), (show Rg 2 by unfold Rg; omega), hs.gm⟩ hl
    rw [hlog] at cM
    clear hlog
    have HO : Hid (outB s line = decide (0 ≤ line ∧ line < lnN s ∧ (line < 2 ∨ hdN s ≤ line))) := hid (by
      by_cases h : 0 ≤ line ∧ line < lnN s ∧ (line < 2 ∨ hdN s ≤ line)
      · rw [show outB s line = true from decide_eq_true ⟨hR, h⟩, decide_eq_true h]
      · rw [show outB s line = false from decide_eq_false (fun e => h e.2), decide_eq_false h])
    have hHD : 4 ≤ hdN s := by unfold hdN; omega
    obtain ⟨e0, e1, e2, e3, e4, e5, e6, e7, e8, e9⟩ := ar_t hR
    rw [e0, e1, e2, e3, e4, e5, e6, e7, e8] at cA
    clear e0 e1 e2 e3 e4 e5 e6 e7 e8 e9 hR
    generalize lnN s = LN at *
    generalize hdN s = HD at *
    generalize tbN s = TB at *
    generalize rtN s = RT at *
    generalize trN s = TR at *
    generalize hpN s = HP at *
    have fin : ∀ (r : Bool), (0 ≤ line ∧ line < LN ∧ (line < 2 ∨ HD ≤ line) ↔ r = true) → Hid (outB s line = r) := fun r h => hid (by rw [HO.out, Bool.eq_iff_iff, decide_eq_true_eq]; exact h)
    by_cases a1 : 0 ≤ line
    · by_cases a2 : line < LN
      · by_cases a3 : line = 1
        · have HF := fin true (by simp; omega)
          subst a3
          clear HO fin
          go_enter Try.func11, Try.ntmps11
          go_wp2_with (first
            | (go_at_call 15; with_reducible refine cA.mono ?_; rintro e w1 ⟨rfl, hb1⟩; have hbw := HB.out w1 hb1)
            | (go_at_call 14; with_reducible refine (cM _).mono ?_; rintro e w2 ⟨rfl, hb2⟩))
          go_ret
          exact ⟨ret_bool HF.out.symm, hbw _⟩
        · have a3' : (line == 1) = false := by simpa using a3
          by_cases a4 : 2 ≤ line ∧ line < HD
          · have HF := fin false (by simp; omega)
            rw [show decide (line = 1 ∨ 2 ≤ line ∧ line < HD) = true from decide_eq_true (.inr a4)] at cM
            clear HO fin a4 a3
            go_enter Try.func11, Try.ntmps11
            go_wp2_with (first
              | (go_at_call 15; with_reducible refine cA.mono ?_; rintro e w1 ⟨rfl, hb1⟩; have hbw := HB.out w1 hb1)
              | (go_at_call 14; with_reducible refine (cM _).mono ?_; rintro e w2 ⟨rfl, hb2⟩))
            go_ret
            exact ⟨ret_bool HF.out.symm, next (hbw _) hb2⟩
          · have HF := fin true (by simp; omega)
            rw [show decide (line = 1 ∨ 2 ≤ line ∧ line < HD) = false from decide_eq_false (fun h => by omega)] at cM
            clear HO fin a4 a3
            go_enter Try.func11, Try.ntmps11
            go_wp2_with (first
              | (go_at_call 15; with_reducible refine cA.mono ?_; rintro e w1 ⟨rfl, hb1⟩; have hbw := HB.out w1 hb1)
              | (go_at_call 14; with_reducible refine (cM _).mono ?_; rintro e w2 ⟨rfl, hb2⟩))
            go_ret
            exact ⟨ret_bool HF.out.symm, next (hbw _) hb2⟩
      · have HF := fin false (by simp; omega)
        clear HO fin
        go_enter Try.func11, Try.ntmps11
        go_wp2_with (first
          | (go_at_call 15; with_reducible refine cA.mono ?_; rintro e w1 ⟨rfl, hb1⟩; have hbw := HB.out w1 hb1)
          | (go_at_call 14; with_reducible refine (cM _).mono ?_; rintro e w2 ⟨rfl, hb2⟩))
        go_ret
        exact ⟨ret_bool HF.out.symm, hbw _⟩
    · have HF := fin false (by simp; omega)
      clear HO fin
      go_enter Try.func11, Try.ntmps11
      go_wp2_with (first
        | (go_at_call 15; with_reducible refine cA.mono ?_; rintro e w1 ⟨rfl, hb1⟩; have hbw := HB.out w1 hb1)
        | (go_at_call 14; with_reducible refine (cM _).mono ?_; rintro e w2 ⟨rfl, hb2⟩))
      go_ret
      exact ⟨ret_bool HF.out.symm, hbw _⟩
  · obtain ⟨e0, e1, e2, e3, e4, e5, e6, e7, e8, e9⟩ := ar_f hR
    rw [e0, e1, e2, e3, e4, e5, e6, e7, e8] at cA
    have HF : Hid (outB s line = false) := hid (decide_eq_false fun h => hR h.1)
    clear e0 e1 e2 e3 e4 e5 e6 e7 e8 e9 hR
    by_cases a1 : 0 ≤ line
    · have a2 : ¬ line < 0 := by omega
      go_enter Try.func11, Try.ntmps11
      go_wp2_with (first
        | (go_at_call 15; with_reducible refine cA.mono ?_; rintro e w1 ⟨rfl, hb1⟩; have hbw := HB.out w1 hb1)
        | (go_at_call 14; with_reducible refine (cM _).mono ?_; rintro e w2 ⟨rfl, hb2⟩))
      go_ret
      exact ⟨ret_bool HF.out.symm, hbw _⟩
    · have a2 : line < 0 := by omega
      go_enter Try.func11, Try.ntmps11
      go_wp2_with (first
        | (go_at_call 15; with_reducible refine cA.mono ?_; rintro e w1 ⟨rfl, hb1⟩; have hbw := HB.out w1 hb1)
        | (go_at_call 14; with_reducible refine (cM _).mono ?_; rintro e w2 ⟨rfl, hb2⟩))
      go_ret
      exact ⟨ret_bool HF.out.symm, hbw _⟩
end Go.Proofs.Ytgjigjjlkpkjeaa
