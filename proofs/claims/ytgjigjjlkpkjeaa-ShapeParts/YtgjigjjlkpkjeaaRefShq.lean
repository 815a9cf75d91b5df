/- joistref16.Areas, Outside by their contracts. -/
import Derived.Test.YtgjigjjlkpkjeaaRefShp
namespace Go.Proofs.Ytgjigjjlkpkjeaa
set_option maxRecDepth 100000
open Go.RowKit
set_option linter.unusedVariables false
set_option linter.unusedSimpArgs false
set_option maxRecDepth 100000

theorem rareasS_any (s : Shp) (w : World) :
    Calls Try.prog 8 #[.agg #[.int .i64 s.pg, .int .i64 s.sl, .int .i64 s.rt, .int .i64 s.rm]] w fun e w' => e = .returned (.tuple #[.agg #[.int .i64 (ar0 s), .int .i64 (ar1 s), .int .i64 (ar2 s), .int .i64 (ar3 s), .int .i64 (ar4 s), .int .i64 (ar5 s), .int .i64 (ar6 s), .int .i64 (ar7 s), .int .i64 (ar8 s)], .int .i64 (arE s)]) ∧ Below w.heap.size w w' := by
  obtain ⟨pg, sl, rt, rm⟩ := s
  simp only
  have hb0 : Below w.heap.size w (w.alloc (.cells #[.int .i64 pg, .int .i64 sl, .int .i64 rt, .int .i64 rm] 23)) := (Below.refl _ _).alloc (Nat.le_refl _) _
  have hb1 := hb0.alloc (o := .cells #[.int .i64 0, .int .i64 0, .int .i64 0, .int .i64 0, .int .i64 0, .int .i64 0, .int .i64 0, .int .i64 0, .int .i64 0] 28) (by simp)
  have hS := (bxS4_new w ⟨pg, sl, rt, rm⟩).more (.cells #[.int .i64 0, .int .i64 0, .int .i64 0, .int .i64 0, .int .i64 0, .int .i64 0, .int .i64 0, .int .i64 0, .int .i64 0] 28)
  have hA := bxA_new (w.alloc (.cells #[.int .i64 pg, .int .i64 sl, .int .i64 rt, .int .i64 rm] 23)) Ars.z
  have cR := rrightS_any pg sl rt rm ((w.alloc (.cells #[.int .i64 pg, .int .i64 sl, .int .i64 rt, .int .i64 rm] 23)).alloc (.cells #[.int .i64 0, .int .i64 0, .int .i64 0, .int .i64 0, .int .i64 0, .int .i64 0, .int .i64 0, .int .i64 0, .int .i64 0] 28))
  have HW : Hid (∀ w1, Below ((w.alloc (.cells #[.int .i64 pg, .int .i64 sl, .int .i64 rt, .int .i64 rm] 23)).alloc (.cells #[.int .i64 0, .int .i64 0, .int .i64 0, .int .i64 0, .int .i64 0, .int .i64 0, .int .i64 0, .int .i64 0, .int .i64 0] 28)).heap.size ((w.alloc (.cells #[.int .i64 pg, .int .i64 sl, .int .i64 rt, .int .i64 rm] 23)).alloc (.cells #[.int .i64 0, .int .i64 0, .int .i64 0, .int .i64 0, .int .i64 0, .int .i64 0, .int .i64 0, .int .i64 0, .int .i64 0] 28)) w1 → BxS4 w1 w.heap.size ⟨pg, sl, rt, rm⟩ ∧ BxA w1 (w.heap.size + 1) Ars.z ∧ Below w.heap.size w w1) := hid (fun w1 hb => by
    have e : (w.alloc (.cells #[.int .i64 pg, .int .i64 sl, .int .i64 rt, .int .i64 rm] 23)).heap.size = w.heap.size + 1 := by simp
    rw [e] at hA
    exact ⟨hS.kept hb, hA.kept hb, next hb1 hb⟩)
  by_cases hR : ShR ⟨pg, sl, rt, rm⟩
  · rw [show shB ⟨pg, sl, rt, rm⟩ = true from decide_eq_true hR] at cR
    obtain ⟨e0, e1, e2, e3, e4, e5, e6, e7, e8, e9⟩ := ar_t hR
    rw [e0, e1, e2, e3, e4, e5, e6, e7, e8, e9]
    have hroom := hR.room
    obtain ⟨⟨h1, h2⟩, ⟨h3, h4, h5⟩, ⟨h6, h7, h8⟩, h9, ha⟩ := hR
    simp only at h1 h2 h3 h4 h5 h6 h7 h8 h9 hroom
    have cA : ∀ w1, _ := fun w1 => rareas_any pg sl rt rm w1 ⟨h1, h2⟩ ⟨h3, h4⟩ ⟨h6, h7⟩ ⟨h9, by omega⟩
    generalize lnN ⟨pg, sl, rt, rm⟩ = LN at *
    generalize hdN ⟨pg, sl, rt, rm⟩ = HD at *
    generalize tbN ⟨pg, sl, rt, rm⟩ = TB at *
    generalize rtN ⟨pg, sl, rt, rm⟩ = RT at *
    generalize trN ⟨pg, sl, rt, rm⟩ = TR at *
    generalize hpN ⟨pg, sl, rt, rm⟩ = HP at *
    clear h1 h2 h3 h4 h5 h6 h7 h8 h9 hroom ha e0 e1 e2 e3 e4 e5 e6 e7 e8 e9 hS hA hb0 hb1
    go_enter Try.func8, Try.ntmps8
    go_wp2_with (first
      | (go_at_call 10; with_reducible refine cR.mono ?_; rintro e w1 ⟨rfl, hb1⟩; obtain ⟨hs1, ha1, hbw⟩ := HW.out w1 hb1; obtain ⟨q0, q1, q2, q3⟩ := hs1.cells)
      | (go_at_call 16; with_reducible refine (cA w1).mono ?_; rintro e w2 ⟨rfl, hb2⟩; obtain ⟨s0, s1, s2, s3, s4, s5, s6, s7, s8⟩ := (ha1.kept hb2).cells; have f0 := (ha1.kept hb2).free 0; have f1 := (ha1.kept hb2).free 1; have f2 := (ha1.kept hb2).free 2; have f3 := (ha1.kept hb2).free 3; have f4 := (ha1.kept hb2).free 4; have f5 := (ha1.kept hb2).free 5; have f6 := (ha1.kept hb2).free 6; have f7 := (ha1.kept hb2).free 7; have f8 := (ha1.kept hb2).free 8; have hbw2 := next hbw hb2))
    refine bodyPost_ret (v := .tuple #[.agg #[.int .i64 1, .int .i64 2, .int .i64 rm, .int .i64 HD, .int .i64 TB, .int .i64 RT, .int .i64 TR, .int .i64 HP, .int .i64 LN], .int .i64 0]) (by simp [results, Try.results8, go_sem, s0, s1, s2, s3, s4, s5, s6, s7, s8]) rfl ⟨rfl, ?_⟩
    exact (((((((((hbw2.setCell (by simp) _).setCell (by simp) _).setCell (by simp) _).setCell (by simp) _).setCell (by simp) _).setCell (by simp) _).setCell (by simp) _).setCell (by simp) _).setCell (by simp) _)
  · rw [show shB ⟨pg, sl, rt, rm⟩ = false from decide_eq_false hR] at cR
    obtain ⟨e0, e1, e2, e3, e4, e5, e6, e7, e8, e9⟩ := ar_f hR
    rw [e0, e1, e2, e3, e4, e5, e6, e7, e8, e9]
    clear e0 e1 e2 e3 e4 e5 e6 e7 e8 e9 hS hA hb0 hb1 hR
    go_enter Try.func8, Try.ntmps8
    go_wp2_with (first
      | (go_at_call 10; with_reducible refine cR.mono ?_; rintro e w1 ⟨rfl, hb1⟩; obtain ⟨hs1, ha1, hbw⟩ := HW.out w1 hb1; obtain ⟨q0, q1, q2, q3⟩ := hs1.cells; obtain ⟨s0, s1, s2, s3, s4, s5, s6, s7, s8⟩ := ha1.cells; have f0 := ha1.free 0; have f1 := ha1.free 1; have f2 := ha1.free 2; have f3 := ha1.free 3; have f4 := ha1.free 4; have f5 := ha1.free 5; have f6 := ha1.free 6; have f7 := ha1.free 7; have f8 := ha1.free 8))
    refine bodyPost_ret (v := .tuple #[.agg #[.int .i64 0, .int .i64 0, .int .i64 0, .int .i64 0, .int .i64 0, .int .i64 0, .int .i64 0, .int .i64 0, .int .i64 0], .int .i64 1]) (by simp [results, Try.results8, go_sem, s0, s1, s2, s3, s4, s5, s6, s7, s8, Ars.z]) rfl ⟨rfl, ?_⟩
    exact (((((((((hbw.setCell (by simp) _).setCell (by simp) _).setCell (by simp) _).setCell (by simp) _).setCell (by simp) _).setCell (by simp) _).setCell (by simp) _).setCell (by simp) _).setCell (by simp) _)
theorem routside_any (s : Shp) (line : Int) (w : World) :
    Calls Try.prog 12 #[.agg #[.int .i64 s.pg, .int .i64 s.sl, .int .i64 s.rt, .int .i64 s.rm], .int .i64 line] w fun e w' => e = .returned (.bool (outB s line)) ∧ Below w.heap.size w w' := by
  have hb0 : Below w.heap.size w (w.alloc (.cells #[.int .i64 s.pg, .int .i64 s.sl, .int .i64 s.rt, .int .i64 s.rm] 23)) := (Below.refl _ _).alloc (Nat.le_refl _) _
  have cA := rareasS_any s (w.alloc (.cells #[.int .i64 s.pg, .int .i64 s.sl, .int .i64 s.rt, .int .i64 s.rm] 23))
  have HB : Hid (∀ w1, Below (w.alloc (.cells #[.int .i64 s.pg, .int .i64 s.sl, .int .i64 s.rt, .int .i64 s.rm] 23)).heap.size (w.alloc (.cells #[.int .i64 s.pg, .int .i64 s.sl, .int .i64 s.rt, .int .i64 s.rm] 23)) w1 → ∀ o, Below w.heap.size w (w1.alloc o)) := hid (fun w1 hb o => (next hb0 hb).alloc (next hb0 hb).size o)
  by_cases hR : ShR s
  · obtain ⟨e0, e1, e2, e3, e4, e5, e6, e7, e8, e9⟩ := ar_t hR
    rw [e3, e8, e9] at cA
    have HO : Hid (outB s line = decide (0 ≤ line ∧ line < lnN s ∧ (line < 2 ∨ hdN s ≤ line))) := hid (by
      by_cases h : 0 ≤ line ∧ line < lnN s ∧ (line < 2 ∨ hdN s ≤ line)
      · rw [show outB s line = true from decide_eq_true ⟨hR, h⟩, decide_eq_true h]
      · rw [show outB s line = false from decide_eq_false (fun e => h e.2), decide_eq_false h])
    generalize lnN s = LN at *
    generalize hdN s = HD at *
    generalize ar0 s = x0 at *
    generalize ar1 s = x1 at *
    generalize ar2 s = x2 at *
    generalize ar4 s = x4 at *
    generalize ar5 s = x5 at *
    generalize ar6 s = x6 at *
    generalize ar7 s = x7 at *
    clear e0 e1 e2 e3 e4 e5 e6 e7 e8 e9 hR hb0
    have fin : ∀ (r : Bool), (0 ≤ line ∧ line < LN ∧ (line < 2 ∨ HD ≤ line) ↔ r = true) → Hid (outB s line = r) := fun r h => hid (by rw [HO.out, Bool.eq_iff_iff, decide_eq_true_eq]; exact h)
    by_cases a1 : 0 ≤ line
    · by_cases a2 : line < LN
      · by_cases a3 : line < 2
        · have HF := fin true (by simp; omega)
          clear HO fin
          go_enter Try.func12, Try.ntmps12
          go_wp2_with (first
            | (go_at_call 8; with_reducible refine cA.mono ?_; rintro e w1 ⟨rfl, hb1⟩; have hbw := HB.out w1 hb1))
          go_ret
          exact ⟨ret_bool HF.out.symm, hbw _⟩
        · by_cases a4 : HD ≤ line
          · have HF := fin true (by simp; omega)
            clear HO fin
            go_enter Try.func12, Try.ntmps12
            go_wp2_with (first
              | (go_at_call 8; with_reducible refine cA.mono ?_; rintro e w1 ⟨rfl, hb1⟩; have hbw := HB.out w1 hb1))
            go_ret
            exact ⟨ret_bool HF.out.symm, hbw _⟩
          · have HF := fin false (by simp; omega)
            clear HO fin
            go_enter Try.func12, Try.ntmps12
            go_wp2_with (first
              | (go_at_call 8; with_reducible refine cA.mono ?_; rintro e w1 ⟨rfl, hb1⟩; have hbw := HB.out w1 hb1))
            go_ret
            exact ⟨ret_bool (by rw [HF.out]; simp <;> omega), hbw _⟩
      · have HF := fin false (by simp; omega)
        clear HO fin
        go_enter Try.func12, Try.ntmps12
        go_wp2_with (first
          | (go_at_call 8; with_reducible refine cA.mono ?_; rintro e w1 ⟨rfl, hb1⟩; have hbw := HB.out w1 hb1))
        go_ret
        exact ⟨ret_bool HF.out.symm, hbw _⟩
    · have HF := fin false (by simp; omega)
      clear HO fin
      go_enter Try.func12, Try.ntmps12
      go_wp2_with (first
        | (go_at_call 8; with_reducible refine cA.mono ?_; rintro e w1 ⟨rfl, hb1⟩; have hbw := HB.out w1 hb1))
      go_ret
      exact ⟨ret_bool HF.out.symm, hbw _⟩
  · obtain ⟨e0, e1, e2, e3, e4, e5, e6, e7, e8, e9⟩ := ar_f hR
    rw [e9] at cA
    have HF : Hid (outB s line = false) := hid (decide_eq_false fun h => hR h.1)
    generalize ar0 s = x0 at *
    generalize ar1 s = x1 at *
    generalize ar2 s = x2 at *
    generalize ar3 s = x3 at *
    generalize ar4 s = x4 at *
    generalize ar5 s = x5 at *
    generalize ar6 s = x6 at *
    generalize ar7 s = x7 at *
    generalize ar8 s = x8 at *
    clear e0 e1 e2 e3 e4 e5 e6 e7 e8 e9 hR hb0
    go_enter Try.func12, Try.ntmps12
    go_wp2_with (first
      | (go_at_call 8; with_reducible refine cA.mono ?_; rintro e w1 ⟨rfl, hb1⟩; have hbw := HB.out w1 hb1))
    go_ret
    exact ⟨ret_bool HF.out.symm, hbw _⟩
end Go.Proofs.Ytgjigjjlkpkjeaa
