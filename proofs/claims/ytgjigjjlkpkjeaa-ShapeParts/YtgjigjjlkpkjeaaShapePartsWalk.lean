/- 'ShapeParts' walked. (tools/gen_shapeparts.py writes it.) -/
import Derived.Test.YtgjigjjlkpkjeaaSmallShp
import Derived.Test.YtgjigjjlkpkjeaaShapeTellsWalk
namespace Go.Proofs.Ytgjigjjlkpkjeaa
set_option maxRecDepth 100000
open Go.RowKit
set_option linter.unusedVariables false
set_option linter.unusedSimpArgs false
set_option maxRecDepth 100000

theorem parts_right {s : Shp} (h : ShR s) : rightG ⟨1, 2, s.rm⟩ (lnN s) = true := by
  have h6 := h.room
  obtain ⟨h1, h2, h3, h4, h5⟩ := h
  refine rightG_iff.2 ⟨by simp only; omega, by simp only; omega, by simp only; omega, by simp only; omega, by simp only; unfold lnN hpN trN rtN tbN hdN; omega, by simp only; unfold lnN hpN trN rtN tbN hdN; omega, ?_⟩
  simp only
  omega
theorem parts_mine {s : Shp} (h : ShR s) (line : Int) : mineG ⟨1, 2, s.rm⟩ line = decide (line = 1 ∨ (2 ≤ line ∧ line < hdN s)) := by
  have h6 := h.room
  obtain ⟨h1, h2, h3, h4, h5⟩ := h
  have hr : rightG ⟨1, 2, s.rm⟩ 4096 = true := by
    refine rightG_iff.2 ⟨by simp only; omega, by simp only; omega, by simp only; omega, by simp only; omega, by simp only; omega, by simp only; omega, ?_⟩
    simp only
    omega
  rw [mineG_t hr]
  unfold inG hdN
  simp only
  by_cases c : line = 1
  · simp [c]
  · simp [c]
theorem parts_out {s : Shp} (h : ShR s) (line : Int) : (line < 0 ∧ outB s line = false) ∨ (¬ line < 0 ∧ ¬ line < lnN s ∧ outB s line = false) ∨ (¬ line < 0 ∧ line < lnN s ∧ line = 1 ∧ mineG ⟨1, 2, s.rm⟩ line = true ∧ outB s line = true) ∨ (¬ line < 0 ∧ line < lnN s ∧ ¬ line = 1 ∧ mineG ⟨1, 2, s.rm⟩ line = true ∧ outB s line = false) ∨ (¬ line < 0 ∧ line < lnN s ∧ ¬ line = 1 ∧ mineG ⟨1, 2, s.rm⟩ line = false ∧ outB s line = true) := by
  rw [parts_mine h line]
  have hp : 2 ≤ hdN s := by have := h.2.2.2.1; unfold hdN; omega
  by_cases c1 : line < 0
  · exact .inl ⟨c1, decide_eq_false (fun hh => by have := hh.2.1; omega)⟩
  · by_cases c2 : line < lnN s
    · by_cases c3 : line = 1
      · exact .inr (.inr (.inl ⟨c1, c2, c3, decide_eq_true (.inl c3), decide_eq_true ⟨h, by omega, c2, by omega⟩⟩))
      · by_cases c4 : 2 ≤ line ∧ line < hdN s
        · exact .inr (.inr (.inr (.inl ⟨c1, c2, c3, decide_eq_true (.inr c4), decide_eq_false (fun hh => by have := hh.2.2.2; omega)⟩)))
        · exact .inr (.inr (.inr (.inr ⟨c1, c2, c3, decide_eq_false (by omega), decide_eq_true ⟨h, by omega, c2, by omega⟩⟩)))
    · exact .inr (.inl ⟨c1, c2, decide_eq_false (fun hh => c2 hh.2.2.1)⟩)
set_option maxHeartbeats 4000000 in
theorem shapeParts_walk (w : World) (s : Shp) (hs : ShG s) (line : Int) (hl : (Lit.int .i64 line).wf = true) :
    Calls Try.prog 4 #[.agg #[.int .i64 s.pg, .int .i64 s.sl, .int .i64 s.rt, .int .i64 s.rm], .int .i64 line] w fun e w' => e = .returned (.bool true) ∧ Below w.heap.size w w' := by
  have hL : Rg line := bounds_i64 hl
  have hb0 : Below w.heap.size w (w.alloc (.cells #[.int .i64 s.pg, .int .i64 s.sl, .int .i64 s.rt, .int .i64 s.rm] 23)) := (Below.refl _ _).alloc (Nat.le_refl _) _
  have cM := smallSh_any (w.alloc (.cells #[.int .i64 s.pg, .int .i64 s.sl, .int .i64 s.rt, .int .i64 s.rm] 23))
  have cA : ∀ w1, _ := fun w1 => shAreas_any s hs w1
  have cR : ∀ w1, _ := fun w1 => shRight_any s hs w1
  have cO : ∀ w1, _ := fun w1 => shOut_any s hs line hL w1
  have HB : Hid (∀ w1, Below (w.alloc (.cells #[.int .i64 s.pg, .int .i64 s.sl, .int .i64 s.rt, .int .i64 s.rm] 23)).heap.size (w.alloc (.cells #[.int .i64 s.pg, .int .i64 s.sl, .int .i64 s.rt, .int .i64 s.rm] 23)) w1 → BxS4 w1 w.heap.size s ∧ Below w.heap.size w w1) := hid (fun w1 hb => ⟨(bxS4_new w s).kept hb, next hb0 hb⟩)
  by_cases hr : ShR s
  · have fO := parts_out hr line
    have hg : (Lg.mk 1 2 s.rm).Ok := ⟨show Rg 1 from ⟨by decide, by decide⟩, show Rg 2 from ⟨by decide, by decide⟩, hs.gm⟩
    have hln : Rg (lnN s) := by have := hr.2.2.2.2; obtain ⟨h1, h2, h3, h4, h5⟩ := hr; unfold Rg; unfold lnN hpN trN rtN tbN hdN at *; omega
    have cG : ∀ w1, _ := fun w1 => wright_any 1 2 s.rm (lnN s) w1 hg hln
    rw [parts_right hr] at cG
    have cN : ∀ w1, _ := fun w1 => mine_any 1 2 s.rm line w1 hg hL
    rw [show shB s = true from decide_eq_true hr] at cR
    obtain ⟨e0, e1, e2, e3, e4, e5, e6, e7, e8, eE⟩ := ar_t hr
    rw [e0, e1, e2, e3, e4, e5, e6, e7, e8, eE] at cA
    clear e0 e1 e2 e3 e4 e5 e6 e7 e8 eE
    have h6 := hr.room
    have hy : hdN s = 2 + 2 * s.rm ∧ tbN s = hdN s + 1 ∧ rtN s = tbN s + s.sl / 2 ∧ trN s = rtN s + s.rt / 2 ∧ hpN s = trN s + 26 ∧ lnN s = hpN s + 4 * s.pg := ⟨rfl, rfl, rfl, rfl, rfl, rfl⟩
    obtain ⟨h1, h2, h3, h4, h5⟩ := hr
    generalize hdN s = y3 at *
    generalize tbN s = y4 at *
    generalize rtN s = y5 at *
    generalize trN s = y6 at *
    generalize hpN s = y7 at *
    generalize lnN s = y8 at *
    generalize mineG ⟨1, 2, s.rm⟩ line = M at *
    generalize outB s line = O at *
    obtain ⟨k3, k4, k5, k6, k7, k8⟩ := hy
    have z1 : IntKind.i64.wrap (2 * s.rm) = 2 * s.rm := IntWalk.i64_in _ ⟨by omega, by omega⟩
    have z2 : IntKind.i64.wrap (2 + 2 * s.rm) = 2 + 2 * s.rm := IntWalk.i64_in _ ⟨by omega, by omega⟩
    have z3 : IntKind.i64.wrap (2 + 2 * s.rm - 1) = 2 + 2 * s.rm - 1 := IntWalk.i64_in _ ⟨by omega, by omega⟩
    have z4 : IntKind.i64.wrap (y5 - y4) = s.sl / 2 := by rw [IntWalk.i64_in _ ⟨by omega, by omega⟩]; omega
    have z5 : IntKind.i64.wrap (y6 - y5) = s.rt / 2 := by rw [IntWalk.i64_in _ ⟨by omega, by omega⟩]; omega
    have z6 : IntKind.i64.wrap (y8 - y7) = 4 * s.pg := by rw [IntWalk.i64_in _ ⟨by omega, by omega⟩]; omega
    have z7 : IntKind.i64.wrap (8 * (4 * s.pg)) = 32 * s.pg := by rw [IntWalk.i64_in _ ⟨by omega, by omega⟩]; omega
    have z8 : IntKind.i64.wrap (32 * s.pg) = 32 * s.pg := IntWalk.i64_in _ ⟨by omega, by omega⟩
    have z9 : Int.tdiv s.sl 2 = s.sl / 2 := Int.tdiv_eq_ediv_of_nonneg (by omega)
    have z10 : Int.tdiv s.rt 2 = s.rt / 2 := Int.tdiv_eq_ediv_of_nonneg (by omega)
    have z11 : IntKind.i64.wrap (s.sl / 2) = s.sl / 2 := IntWalk.i64_in _ ⟨by omega, by omega⟩
    have z12 : IntKind.i64.wrap (s.rt / 2) = s.rt / 2 := IntWalk.i64_in _ ⟨by omega, by omega⟩
    have n1 : ¬ (y3 ≤ 2 + 2 * s.rm - 1) := by omega
    have n2 : ¬ (y4 ≤ y3) := by omega
    have n3 : ¬ (y5 ≤ y4) := by omega
    have n4 : ¬ (y6 ≤ y5) := by omega
    have n5 : ¬ (y7 ≤ y6) := by omega
    have n6 : ¬ (y8 ≤ y7) := by omega
    have n7 : ¬ (4096 < y8) := by omega
    have n8 : 1 < y8 := by omega
    clear hs hb0 hl hL hg hln h1 h2 h3 h4 h5 h6 k3 k4 k5 k6 k7 k8
    rcases fO with ⟨t1, rfl⟩ | ⟨t1, t2, rfl⟩ | ⟨t1, t2, t3, rfl, rfl⟩ | ⟨t1, t2, t3, rfl, rfl⟩ | ⟨t1, t2, t3, rfl, rfl⟩
    · have t3 : ¬ line = 1 := by omega
      cases M
      · go_enter Try.func4, Try.ntmps4
        go_wp2_with (first
          | (go_at_call 6; with_reducible refine cM.mono ?_; rintro e w1 ⟨rfl, hb1⟩; obtain ⟨hs1, hbw1⟩ := HB.out w1 hb1; obtain ⟨q0, q1, q2, q3⟩ := hs1.cells)
          | (go_at_call 7; with_reducible refine (cA w1).mono ?_; rintro e w2 ⟨rfl, hb2⟩; have hbw2 := next hbw1 hb2; have hs2 := (hs1.kept hb2).more (.cells #[.int .i64 1, .int .i64 2, .int .i64 s.rm, .int .i64 y3, .int .i64 y4, .int .i64 y5, .int .i64 y6, .int .i64 y7, .int .i64 y8] 28); have hA2 := bxA_new w2 ⟨1, 2, s.rm, y3, y4, y5, y6, y7, y8⟩; obtain ⟨v0, v1, v2, v3⟩ := (hs1.kept hb2).cells; have hl2 := (hs1.kept hb2).lt; have hbw2' := hbw2.alloc hbw2.size (.cells #[.int .i64 1, .int .i64 2, .int .i64 s.rm, .int .i64 y3, .int .i64 y4, .int .i64 y5, .int .i64 y6, .int .i64 y7, .int .i64 y8] 28))
          | (go_at_call 9; with_reducible refine (cR _).mono ?_; rintro e w3 ⟨rfl, hb3⟩; have hbw3 := next hbw2' hb3; have hs3 := hs2.kept hb3; have hA3 := hA2.kept hb3; obtain ⟨a0, a1, a2, a3, a4, a5, a6, a7, a8⟩ := hA3.cells)
          | (go_at_call 13; with_reducible refine (cG _).mono ?_; rintro e w4 ⟨rfl, hb4⟩; have hbw4 := next hbw3 hb4; have hs4 := hs3.kept hb4; have hA4 := hA3.kept hb4; obtain ⟨b0, b1, b2, b3, b4, b5, b6, b7, b8⟩ := hA4.cells)
          | (go_at_call 14; with_reducible refine (cN _).mono ?_; rintro e w5 ⟨rfl, hb5⟩; have hbw5 := next hbw4 hb5; have hs5 := hs4.kept hb5; have hA5 := hA4.kept hb5; obtain ⟨c0, c1, c2, c3, c4, c5, c6, c7, c8⟩ := hA5.cells; obtain ⟨d0, d1, d2, d3⟩ := hs5.cells)
          | (go_at_call 11; with_reducible refine (cO _).mono ?_; rintro e w6 ⟨rfl, hb6⟩; have hbw6 := next hbw5 hb6; have hs6 := hs5.kept hb6; have hA6 := hA5.kept hb6; obtain ⟨f0, f1, f2, f3, f4, f5, f6, f7, f8⟩ := hA6.cells; obtain ⟨g0, g1, g2, g3⟩ := hs6.cells))
        go_ret
        exact ⟨ret_bool (by first | (simp; done) | (simp; omega)), hbw6⟩
      · go_enter Try.func4, Try.ntmps4
        go_wp2_with (first
          | (go_at_call 6; with_reducible refine cM.mono ?_; rintro e w1 ⟨rfl, hb1⟩; obtain ⟨hs1, hbw1⟩ := HB.out w1 hb1; obtain ⟨q0, q1, q2, q3⟩ := hs1.cells)
          | (go_at_call 7; with_reducible refine (cA w1).mono ?_; rintro e w2 ⟨rfl, hb2⟩; have hbw2 := next hbw1 hb2; have hs2 := (hs1.kept hb2).more (.cells #[.int .i64 1, .int .i64 2, .int .i64 s.rm, .int .i64 y3, .int .i64 y4, .int .i64 y5, .int .i64 y6, .int .i64 y7, .int .i64 y8] 28); have hA2 := bxA_new w2 ⟨1, 2, s.rm, y3, y4, y5, y6, y7, y8⟩; obtain ⟨v0, v1, v2, v3⟩ := (hs1.kept hb2).cells; have hl2 := (hs1.kept hb2).lt; have hbw2' := hbw2.alloc hbw2.size (.cells #[.int .i64 1, .int .i64 2, .int .i64 s.rm, .int .i64 y3, .int .i64 y4, .int .i64 y5, .int .i64 y6, .int .i64 y7, .int .i64 y8] 28))
          | (go_at_call 9; with_reducible refine (cR _).mono ?_; rintro e w3 ⟨rfl, hb3⟩; have hbw3 := next hbw2' hb3; have hs3 := hs2.kept hb3; have hA3 := hA2.kept hb3; obtain ⟨a0, a1, a2, a3, a4, a5, a6, a7, a8⟩ := hA3.cells)
          | (go_at_call 13; with_reducible refine (cG _).mono ?_; rintro e w4 ⟨rfl, hb4⟩; have hbw4 := next hbw3 hb4; have hs4 := hs3.kept hb4; have hA4 := hA3.kept hb4; obtain ⟨b0, b1, b2, b3, b4, b5, b6, b7, b8⟩ := hA4.cells)
          | (go_at_call 14; with_reducible refine (cN _).mono ?_; rintro e w5 ⟨rfl, hb5⟩; have hbw5 := next hbw4 hb5; have hs5 := hs4.kept hb5; have hA5 := hA4.kept hb5; obtain ⟨c0, c1, c2, c3, c4, c5, c6, c7, c8⟩ := hA5.cells; obtain ⟨d0, d1, d2, d3⟩ := hs5.cells)
          | (go_at_call 11; with_reducible refine (cO _).mono ?_; rintro e w6 ⟨rfl, hb6⟩; have hbw6 := next hbw5 hb6; have hs6 := hs5.kept hb6; have hA6 := hA5.kept hb6; obtain ⟨f0, f1, f2, f3, f4, f5, f6, f7, f8⟩ := hA6.cells; obtain ⟨g0, g1, g2, g3⟩ := hs6.cells))
        go_ret
        exact ⟨ret_bool (by first | (simp; done) | (simp; omega)), hbw6⟩
    · have t3 : ¬ line = 1 := by omega
      cases M
      · go_enter Try.func4, Try.ntmps4
        go_wp2_with (first
          | (go_at_call 6; with_reducible refine cM.mono ?_; rintro e w1 ⟨rfl, hb1⟩; obtain ⟨hs1, hbw1⟩ := HB.out w1 hb1; obtain ⟨q0, q1, q2, q3⟩ := hs1.cells)
          | (go_at_call 7; with_reducible refine (cA w1).mono ?_; rintro e w2 ⟨rfl, hb2⟩; have hbw2 := next hbw1 hb2; have hs2 := (hs1.kept hb2).more (.cells #[.int .i64 1, .int .i64 2, .int .i64 s.rm, .int .i64 y3, .int .i64 y4, .int .i64 y5, .int .i64 y6, .int .i64 y7, .int .i64 y8] 28); have hA2 := bxA_new w2 ⟨1, 2, s.rm, y3, y4, y5, y6, y7, y8⟩; obtain ⟨v0, v1, v2, v3⟩ := (hs1.kept hb2).cells; have hl2 := (hs1.kept hb2).lt; have hbw2' := hbw2.alloc hbw2.size (.cells #[.int .i64 1, .int .i64 2, .int .i64 s.rm, .int .i64 y3, .int .i64 y4, .int .i64 y5, .int .i64 y6, .int .i64 y7, .int .i64 y8] 28))
          | (go_at_call 9; with_reducible refine (cR _).mono ?_; rintro e w3 ⟨rfl, hb3⟩; have hbw3 := next hbw2' hb3; have hs3 := hs2.kept hb3; have hA3 := hA2.kept hb3; obtain ⟨a0, a1, a2, a3, a4, a5, a6, a7, a8⟩ := hA3.cells)
          | (go_at_call 13; with_reducible refine (cG _).mono ?_; rintro e w4 ⟨rfl, hb4⟩; have hbw4 := next hbw3 hb4; have hs4 := hs3.kept hb4; have hA4 := hA3.kept hb4; obtain ⟨b0, b1, b2, b3, b4, b5, b6, b7, b8⟩ := hA4.cells)
          | (go_at_call 14; with_reducible refine (cN _).mono ?_; rintro e w5 ⟨rfl, hb5⟩; have hbw5 := next hbw4 hb5; have hs5 := hs4.kept hb5; have hA5 := hA4.kept hb5; obtain ⟨c0, c1, c2, c3, c4, c5, c6, c7, c8⟩ := hA5.cells; obtain ⟨d0, d1, d2, d3⟩ := hs5.cells)
          | (go_at_call 11; with_reducible refine (cO _).mono ?_; rintro e w6 ⟨rfl, hb6⟩; have hbw6 := next hbw5 hb6; have hs6 := hs5.kept hb6; have hA6 := hA5.kept hb6; obtain ⟨f0, f1, f2, f3, f4, f5, f6, f7, f8⟩ := hA6.cells; obtain ⟨g0, g1, g2, g3⟩ := hs6.cells))
        go_ret
        exact ⟨ret_bool (by first | (simp; done) | (simp; omega)), hbw6⟩
      · go_enter Try.func4, Try.ntmps4
        go_wp2_with (first
          | (go_at_call 6; with_reducible refine cM.mono ?_; rintro e w1 ⟨rfl, hb1⟩; obtain ⟨hs1, hbw1⟩ := HB.out w1 hb1; obtain ⟨q0, q1, q2, q3⟩ := hs1.cells)
          | (go_at_call 7; with_reducible refine (cA w1).mono ?_; rintro e w2 ⟨rfl, hb2⟩; have hbw2 := next hbw1 hb2; have hs2 := (hs1.kept hb2).more (.cells #[.int .i64 1, .int .i64 2, .int .i64 s.rm, .int .i64 y3, .int .i64 y4, .int .i64 y5, .int .i64 y6, .int .i64 y7, .int .i64 y8] 28); have hA2 := bxA_new w2 ⟨1, 2, s.rm, y3, y4, y5, y6, y7, y8⟩; obtain ⟨v0, v1, v2, v3⟩ := (hs1.kept hb2).cells; have hl2 := (hs1.kept hb2).lt; have hbw2' := hbw2.alloc hbw2.size (.cells #[.int .i64 1, .int .i64 2, .int .i64 s.rm, .int .i64 y3, .int .i64 y4, .int .i64 y5, .int .i64 y6, .int .i64 y7, .int .i64 y8] 28))
          | (go_at_call 9; with_reducible refine (cR _).mono ?_; rintro e w3 ⟨rfl, hb3⟩; have hbw3 := next hbw2' hb3; have hs3 := hs2.kept hb3; have hA3 := hA2.kept hb3; obtain ⟨a0, a1, a2, a3, a4, a5, a6, a7, a8⟩ := hA3.cells)
          | (go_at_call 13; with_reducible refine (cG _).mono ?_; rintro e w4 ⟨rfl, hb4⟩; have hbw4 := next hbw3 hb4; have hs4 := hs3.kept hb4; have hA4 := hA3.kept hb4; obtain ⟨b0, b1, b2, b3, b4, b5, b6, b7, b8⟩ := hA4.cells)
          | (go_at_call 14; with_reducible refine (cN _).mono ?_; rintro e w5 ⟨rfl, hb5⟩; have hbw5 := next hbw4 hb5; have hs5 := hs4.kept hb5; have hA5 := hA4.kept hb5; obtain ⟨c0, c1, c2, c3, c4, c5, c6, c7, c8⟩ := hA5.cells; obtain ⟨d0, d1, d2, d3⟩ := hs5.cells)
          | (go_at_call 11; with_reducible refine (cO _).mono ?_; rintro e w6 ⟨rfl, hb6⟩; have hbw6 := next hbw5 hb6; have hs6 := hs5.kept hb6; have hA6 := hA5.kept hb6; obtain ⟨f0, f1, f2, f3, f4, f5, f6, f7, f8⟩ := hA6.cells; obtain ⟨g0, g1, g2, g3⟩ := hs6.cells))
        go_ret
        exact ⟨ret_bool (by first | (simp; done) | (simp; omega)), hbw6⟩
    · subst t3
      go_enter Try.func4, Try.ntmps4
      go_wp2_with (first
        | (go_at_call 6; with_reducible refine cM.mono ?_; rintro e w1 ⟨rfl, hb1⟩; obtain ⟨hs1, hbw1⟩ := HB.out w1 hb1; obtain ⟨q0, q1, q2, q3⟩ := hs1.cells)
        | (go_at_call 7; with_reducible refine (cA w1).mono ?_; rintro e w2 ⟨rfl, hb2⟩; have hbw2 := next hbw1 hb2; have hs2 := (hs1.kept hb2).more (.cells #[.int .i64 1, .int .i64 2, .int .i64 s.rm, .int .i64 y3, .int .i64 y4, .int .i64 y5, .int .i64 y6, .int .i64 y7, .int .i64 y8] 28); have hA2 := bxA_new w2 ⟨1, 2, s.rm, y3, y4, y5, y6, y7, y8⟩; obtain ⟨v0, v1, v2, v3⟩ := (hs1.kept hb2).cells; have hl2 := (hs1.kept hb2).lt; have hbw2' := hbw2.alloc hbw2.size (.cells #[.int .i64 1, .int .i64 2, .int .i64 s.rm, .int .i64 y3, .int .i64 y4, .int .i64 y5, .int .i64 y6, .int .i64 y7, .int .i64 y8] 28))
        | (go_at_call 9; with_reducible refine (cR _).mono ?_; rintro e w3 ⟨rfl, hb3⟩; have hbw3 := next hbw2' hb3; have hs3 := hs2.kept hb3; have hA3 := hA2.kept hb3; obtain ⟨a0, a1, a2, a3, a4, a5, a6, a7, a8⟩ := hA3.cells)
        | (go_at_call 13; with_reducible refine (cG _).mono ?_; rintro e w4 ⟨rfl, hb4⟩; have hbw4 := next hbw3 hb4; have hs4 := hs3.kept hb4; have hA4 := hA3.kept hb4; obtain ⟨b0, b1, b2, b3, b4, b5, b6, b7, b8⟩ := hA4.cells)
        | (go_at_call 14; with_reducible refine (cN _).mono ?_; rintro e w5 ⟨rfl, hb5⟩; have hbw5 := next hbw4 hb5; have hs5 := hs4.kept hb5; have hA5 := hA4.kept hb5; obtain ⟨c0, c1, c2, c3, c4, c5, c6, c7, c8⟩ := hA5.cells; obtain ⟨d0, d1, d2, d3⟩ := hs5.cells)
        | (go_at_call 11; with_reducible refine (cO _).mono ?_; rintro e w6 ⟨rfl, hb6⟩; have hbw6 := next hbw5 hb6; have hs6 := hs5.kept hb6; have hA6 := hA5.kept hb6; obtain ⟨f0, f1, f2, f3, f4, f5, f6, f7, f8⟩ := hA6.cells; obtain ⟨g0, g1, g2, g3⟩ := hs6.cells))
      go_ret
      exact ⟨ret_bool (by first | (simp; done) | (simp; omega)), hbw6⟩
    · go_enter Try.func4, Try.ntmps4
      go_wp2_with (first
        | (go_at_call 6; with_reducible refine cM.mono ?_; rintro e w1 ⟨rfl, hb1⟩; obtain ⟨hs1, hbw1⟩ := HB.out w1 hb1; obtain ⟨q0, q1, q2, q3⟩ := hs1.cells)
        | (go_at_call 7; with_reducible refine (cA w1).mono ?_; rintro e w2 ⟨rfl, hb2⟩; have hbw2 := next hbw1 hb2; have hs2 := (hs1.kept hb2).more (.cells #[.int .i64 1, .int .i64 2, .int .i64 s.rm, .int .i64 y3, .int .i64 y4, .int .i64 y5, .int .i64 y6, .int .i64 y7, .int .i64 y8] 28); have hA2 := bxA_new w2 ⟨1, 2, s.rm, y3, y4, y5, y6, y7, y8⟩; obtain ⟨v0, v1, v2, v3⟩ := (hs1.kept hb2).cells; have hl2 := (hs1.kept hb2).lt; have hbw2' := hbw2.alloc hbw2.size (.cells #[.int .i64 1, .int .i64 2, .int .i64 s.rm, .int .i64 y3, .int .i64 y4, .int .i64 y5, .int .i64 y6, .int .i64 y7, .int .i64 y8] 28))
        | (go_at_call 9; with_reducible refine (cR _).mono ?_; rintro e w3 ⟨rfl, hb3⟩; have hbw3 := next hbw2' hb3; have hs3 := hs2.kept hb3; have hA3 := hA2.kept hb3; obtain ⟨a0, a1, a2, a3, a4, a5, a6, a7, a8⟩ := hA3.cells)
        | (go_at_call 13; with_reducible refine (cG _).mono ?_; rintro e w4 ⟨rfl, hb4⟩; have hbw4 := next hbw3 hb4; have hs4 := hs3.kept hb4; have hA4 := hA3.kept hb4; obtain ⟨b0, b1, b2, b3, b4, b5, b6, b7, b8⟩ := hA4.cells)
        | (go_at_call 14; with_reducible refine (cN _).mono ?_; rintro e w5 ⟨rfl, hb5⟩; have hbw5 := next hbw4 hb5; have hs5 := hs4.kept hb5; have hA5 := hA4.kept hb5; obtain ⟨c0, c1, c2, c3, c4, c5, c6, c7, c8⟩ := hA5.cells; obtain ⟨d0, d1, d2, d3⟩ := hs5.cells)
        | (go_at_call 11; with_reducible refine (cO _).mono ?_; rintro e w6 ⟨rfl, hb6⟩; have hbw6 := next hbw5 hb6; have hs6 := hs5.kept hb6; have hA6 := hA5.kept hb6; obtain ⟨f0, f1, f2, f3, f4, f5, f6, f7, f8⟩ := hA6.cells; obtain ⟨g0, g1, g2, g3⟩ := hs6.cells))
      go_ret
      exact ⟨ret_bool (by first | (simp; done) | (simp; omega)), hbw6⟩
    · go_enter Try.func4, Try.ntmps4
      go_wp2_with (first
        | (go_at_call 6; with_reducible refine cM.mono ?_; rintro e w1 ⟨rfl, hb1⟩; obtain ⟨hs1, hbw1⟩ := HB.out w1 hb1; obtain ⟨q0, q1, q2, q3⟩ := hs1.cells)
        | (go_at_call 7; with_reducible refine (cA w1).mono ?_; rintro e w2 ⟨rfl, hb2⟩; have hbw2 := next hbw1 hb2; have hs2 := (hs1.kept hb2).more (.cells #[.int .i64 1, .int .i64 2, .int .i64 s.rm, .int .i64 y3, .int .i64 y4, .int .i64 y5, .int .i64 y6, .int .i64 y7, .int .i64 y8] 28); have hA2 := bxA_new w2 ⟨1, 2, s.rm, y3, y4, y5, y6, y7, y8⟩; obtain ⟨v0, v1, v2, v3⟩ := (hs1.kept hb2).cells; have hl2 := (hs1.kept hb2).lt; have hbw2' := hbw2.alloc hbw2.size (.cells #[.int .i64 1, .int .i64 2, .int .i64 s.rm, .int .i64 y3, .int .i64 y4, .int .i64 y5, .int .i64 y6, .int .i64 y7, .int .i64 y8] 28))
        | (go_at_call 9; with_reducible refine (cR _).mono ?_; rintro e w3 ⟨rfl, hb3⟩; have hbw3 := next hbw2' hb3; have hs3 := hs2.kept hb3; have hA3 := hA2.kept hb3; obtain ⟨a0, a1, a2, a3, a4, a5, a6, a7, a8⟩ := hA3.cells)
        | (go_at_call 13; with_reducible refine (cG _).mono ?_; rintro e w4 ⟨rfl, hb4⟩; have hbw4 := next hbw3 hb4; have hs4 := hs3.kept hb4; have hA4 := hA3.kept hb4; obtain ⟨b0, b1, b2, b3, b4, b5, b6, b7, b8⟩ := hA4.cells)
        | (go_at_call 14; with_reducible refine (cN _).mono ?_; rintro e w5 ⟨rfl, hb5⟩; have hbw5 := next hbw4 hb5; have hs5 := hs4.kept hb5; have hA5 := hA4.kept hb5; obtain ⟨c0, c1, c2, c3, c4, c5, c6, c7, c8⟩ := hA5.cells; obtain ⟨d0, d1, d2, d3⟩ := hs5.cells)
        | (go_at_call 11; with_reducible refine (cO _).mono ?_; rintro e w6 ⟨rfl, hb6⟩; have hbw6 := next hbw5 hb6; have hs6 := hs5.kept hb6; have hA6 := hA5.kept hb6; obtain ⟨f0, f1, f2, f3, f4, f5, f6, f7, f8⟩ := hA6.cells; obtain ⟨g0, g1, g2, g3⟩ := hs6.cells))
      go_ret
      exact ⟨ret_bool (by first | (simp; done) | (simp; omega)), hbw6⟩
  · obtain ⟨e0, e1, e2, e3, e4, e5, e6, e7, e8, eE⟩ := ar_f hr
    rw [e0, e1, e2, e3, e4, e5, e6, e7, e8, eE] at cA
    rw [show shB s = false from decide_eq_false hr] at cR
    rw [show outB s line = false from decide_eq_false (fun h => hr h.1)] at cO
    clear hr hs hb0 hl hL e0 e1 e2 e3 e4 e5 e6 e7 e8 eE
    go_enter Try.func4, Try.ntmps4
    go_wp2_with (first
      | (go_at_call 6; with_reducible refine cM.mono ?_; rintro e w1 ⟨rfl, hb1⟩; obtain ⟨hs1, hbw1⟩ := HB.out w1 hb1; obtain ⟨q0, q1, q2, q3⟩ := hs1.cells)
      | (go_at_call 7; with_reducible refine (cA w1).mono ?_; rintro e w2 ⟨rfl, hb2⟩; have hbw2 := next hbw1 hb2; have hs2 := (hs1.kept hb2).more (.cells #[.int .i64 0, .int .i64 0, .int .i64 0, .int .i64 0, .int .i64 0, .int .i64 0, .int .i64 0, .int .i64 0, .int .i64 0] 28); have hbw2' := hbw2.alloc hbw2.size (.cells #[.int .i64 0, .int .i64 0, .int .i64 0, .int .i64 0, .int .i64 0, .int .i64 0, .int .i64 0, .int .i64 0, .int .i64 0] 28); obtain ⟨v0, v1, v2, v3⟩ := (hs1.kept hb2).cells; have hl2 := (hs1.kept hb2).lt)
      | (go_at_call 9; with_reducible refine (cR _).mono ?_; rintro e w3 ⟨rfl, hb3⟩; have hbw3 := next hbw2' hb3; have hs3 := hs2.kept hb3; obtain ⟨u0, u1, u2, u3⟩ := hs3.cells)
      | (go_at_call 11; with_reducible refine (cO _).mono ?_; rintro e w4 ⟨rfl, hb4⟩; have hbw4 := next hbw3 hb4))
    go_ret
    exact ⟨ret_bool (by simp), hbw4⟩
end Go.Proofs.Ytgjigjjlkpkjeaa
