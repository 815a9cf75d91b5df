/- 'ShapeGrows' walked. -/
import Derived.Test.YtgjigjjlkpkjeaaSmallShp
import Derived.Deep.RegionHeld3
namespace Go.Proofs.Ytgjigjjlkpkjeaa
set_option maxRecDepth 100000
open Go.RowKit
set_option linter.unusedVariables false
set_option linter.unusedSimpArgs false
set_option maxRecDepth 100000

theorem grows_page {s : Shp} (h : ShR s) : (arE ⟨s.pg + 1, s.sl, s.rt, s.rm⟩ = 0 ∧ hpN s = ar7 ⟨s.pg + 1, s.sl, s.rt, s.rm⟩ ∧ ar8 ⟨s.pg + 1, s.sl, s.rt, s.rm⟩ = lnN s + 4 ∧ s.pg < 64 ∧ lnN s + 4 ≤ 4096) ∨ (arE ⟨s.pg + 1, s.sl, s.rt, s.rm⟩ = 1 ∧ ¬ s.pg < 64) ∨ (arE ⟨s.pg + 1, s.sl, s.rt, s.rm⟩ = 1 ∧ s.pg < 64 ∧ ¬ lnN s + 4 ≤ 4096) := by
  obtain ⟨h1, h2, h3, h4, h5⟩ := h
  have e : lnN ⟨s.pg + 1, s.sl, s.rt, s.rm⟩ = lnN s + 4 := by unfold lnN hpN trN rtN tbN hdN; simp only; omega
  by_cases c1 : s.pg < 64
  · by_cases c2 : lnN s + 4 ≤ 4096
    · have hr : ShR ⟨s.pg + 1, s.sl, s.rt, s.rm⟩ := ⟨⟨by show 1 ≤ s.pg + 1; omega, by show s.pg + 1 ≤ 64; omega⟩, h2, h3, h4, by rw [e]; exact c2⟩
      obtain ⟨-, -, -, -, -, -, -, e7, e8, eE⟩ := ar_t hr
      exact .inl ⟨eE, (e7.trans rfl).symm, e8.trans e, c1, c2⟩
    · exact .inr (.inr ⟨(ar_f (fun hr => c2 (by have := hr.2.2.2.2; rw [e] at this; exact this))).2.2.2.2.2.2.2.2.2, c1, c2⟩)
  · exact .inr (.inl ⟨(ar_f (fun hr => c1 (by have := hr.1.2; simp only at this; omega))).2.2.2.2.2.2.2.2.2, c1⟩)
theorem grows_room {s : Shp} (h : ShR s) : (arE ⟨s.pg, s.sl, s.rt, s.rm + 1⟩ = 0 ∧ ar3 ⟨s.pg, s.sl, s.rt, s.rm + 1⟩ = hdN s + 2 ∧ ar8 ⟨s.pg, s.sl, s.rt, s.rm + 1⟩ = lnN s + 2 ∧ lnN s + 2 ≤ 4096) ∨ (arE ⟨s.pg, s.sl, s.rt, s.rm + 1⟩ = 1 ∧ ¬ lnN s + 2 ≤ 4096) := by
  obtain ⟨h1, h2, h3, h4, h5⟩ := h
  have e : lnN ⟨s.pg, s.sl, s.rt, s.rm + 1⟩ = lnN s + 2 := by unfold lnN hpN trN rtN tbN hdN; simp only; omega
  by_cases c2 : lnN s + 2 ≤ 4096
  · have hr : ShR ⟨s.pg, s.sl, s.rt, s.rm + 1⟩ := ⟨h1, h2, h3, by show 1 ≤ s.rm + 1; omega, by rw [e]; exact c2⟩
    obtain ⟨-, -, -, e3, -, -, -, -, e8, eE⟩ := ar_t hr
    exact .inl ⟨eE, e3.trans (by unfold hdN; simp only; omega), e8.trans e, c2⟩
  · exact .inr ⟨(ar_f (fun hr => c2 (by have := hr.2.2.2.2; rw [e] at this; exact this))).2.2.2.2.2.2.2.2.2, c2⟩
theorem shg_page {s : Shp} (h : ShR s) : ShG ⟨s.pg + 1, s.sl, s.rt, s.rm⟩ := by
  have h6 := h.room
  obtain ⟨h1, h2, h3, h4, h5⟩ := h
  unfold Rg at *
  exact ⟨⟨by simp only; omega, by simp only; omega⟩, ⟨by simp only; omega, by simp only; omega⟩, ⟨by simp only; omega, by simp only; omega⟩, ⟨by simp only; omega, by simp only; omega⟩⟩
theorem shg_room {s : Shp} (h : ShR s) : ShG ⟨s.pg, s.sl, s.rt, s.rm + 1⟩ := by
  have h6 := h.room
  obtain ⟨h1, h2, h3, h4, h5⟩ := h
  unfold Rg at *
  exact ⟨⟨by simp only; omega, by simp only; omega⟩, ⟨by simp only; omega, by simp only; omega⟩, ⟨by simp only; omega, by simp only; omega⟩, ⟨by simp only; omega, by simp only; omega⟩⟩
theorem grown2 {w w2 w3 : World} (h : Below w.heap.size w w2) (o p : Obj) (h3 : Below ((w2.alloc o).alloc p).heap.size ((w2.alloc o).alloc p) w3) : Below w.heap.size w w3 :=
  next ((h.alloc h.size o).alloc (h.alloc h.size o).size p) h3
set_option maxHeartbeats 4000000 in
theorem shapeGrows_walk (w : World) (s : Shp) (hs : ShG s) :
    Calls Try.prog 5 #[.agg #[.int .i64 s.pg, .int .i64 s.sl, .int .i64 s.rt, .int .i64 s.rm]] w fun e w' => e = .returned (.bool true) ∧ Below w.heap.size w w' := by
  have hb0 : Below w.heap.size w (w.alloc (.cells #[.int .i64 s.pg, .int .i64 s.sl, .int .i64 s.rt, .int .i64 s.rm] 23)) := (Below.refl _ _).alloc (Nat.le_refl _) _
  have cM := smallSh_any (w.alloc (.cells #[.int .i64 s.pg, .int .i64 s.sl, .int .i64 s.rt, .int .i64 s.rm] 23))
  have cA : ∀ w1, _ := fun w1 => shAreas_any s hs w1
  have HB : Hid (∀ w1, Below (w.alloc (.cells #[.int .i64 s.pg, .int .i64 s.sl, .int .i64 s.rt, .int .i64 s.rm] 23)).heap.size (w.alloc (.cells #[.int .i64 s.pg, .int .i64 s.sl, .int .i64 s.rt, .int .i64 s.rm] 23)) w1 → BxS4 w1 w.heap.size s ∧ Below w.heap.size w w1) := hid (fun w1 hb => ⟨(bxS4_new w s).kept hb, next hb0 hb⟩)
  by_cases hr : ShR s
  · have fP := grows_page hr
    have fQ := grows_room hr
    have cP : ∀ w1, _ := fun w1 => shAreas_any ⟨s.pg + 1, s.sl, s.rt, s.rm⟩ (shg_page hr) w1
    have cQ : ∀ w1, _ := fun w1 => shAreas_any ⟨s.pg, s.sl, s.rt, s.rm + 1⟩ (shg_room hr) w1
    simp only at cP cQ
    obtain ⟨e0, e1, e2, e3, e4, e5, e6, e7, e8, eE⟩ := ar_t hr
    rw [e0, e1, e2, e3, e4, e5, e6, e7, e8, eE] at cA
    have r1 : 1 ≤ s.pg ∧ s.pg ≤ 64 := hr.1
    have r2 := hr.room
    have r3 : 1 ≤ s.rm := hr.2.2.2.1
    have r4 : lnN s ≤ 4096 := hr.2.2.2.2
    have r5 : 0 ≤ hdN s ∧ hdN s ≤ 4096 := by unfold hdN; omega
    have r6 : 0 ≤ lnN s := by obtain ⟨h1, h2, h3, h4, h5⟩ := hr; unfold lnN hpN trN rtN tbN hdN; omega
    obtain ⟨r1, r1'⟩ := r1
    obtain ⟨r5, r5'⟩ := r5
    clear hr hs e0 e1 e2 e3 e4 e5 e6 e7 e8 eE
    generalize hdN s = y3 at *
    generalize tbN s = y4 at *
    generalize rtN s = y5 at *
    generalize trN s = y6 at *
    generalize hpN s = y7 at *
    generalize lnN s = y8 at *
    generalize ar0 ⟨s.pg + 1, s.sl, s.rt, s.rm⟩ = p0 at *
    generalize ar1 ⟨s.pg + 1, s.sl, s.rt, s.rm⟩ = p1 at *
    generalize ar2 ⟨s.pg + 1, s.sl, s.rt, s.rm⟩ = p2 at *
    generalize ar3 ⟨s.pg + 1, s.sl, s.rt, s.rm⟩ = p3 at *
    generalize ar4 ⟨s.pg + 1, s.sl, s.rt, s.rm⟩ = p4 at *
    generalize ar5 ⟨s.pg + 1, s.sl, s.rt, s.rm⟩ = p5 at *
    generalize ar6 ⟨s.pg + 1, s.sl, s.rt, s.rm⟩ = p6 at *
    generalize ar7 ⟨s.pg + 1, s.sl, s.rt, s.rm⟩ = p7 at *
    generalize ar8 ⟨s.pg + 1, s.sl, s.rt, s.rm⟩ = p8 at *
    generalize arE ⟨s.pg + 1, s.sl, s.rt, s.rm⟩ = pE at *
    generalize ar0 ⟨s.pg, s.sl, s.rt, s.rm + 1⟩ = u0 at *
    generalize ar1 ⟨s.pg, s.sl, s.rt, s.rm + 1⟩ = u1 at *
    generalize ar2 ⟨s.pg, s.sl, s.rt, s.rm + 1⟩ = u2 at *
    generalize ar3 ⟨s.pg, s.sl, s.rt, s.rm + 1⟩ = u3 at *
    generalize ar4 ⟨s.pg, s.sl, s.rt, s.rm + 1⟩ = u4 at *
    generalize ar5 ⟨s.pg, s.sl, s.rt, s.rm + 1⟩ = u5 at *
    generalize ar6 ⟨s.pg, s.sl, s.rt, s.rm + 1⟩ = u6 at *
    generalize ar7 ⟨s.pg, s.sl, s.rt, s.rm + 1⟩ = u7 at *
    generalize ar8 ⟨s.pg, s.sl, s.rt, s.rm + 1⟩ = u8 at *
    generalize arE ⟨s.pg, s.sl, s.rt, s.rm + 1⟩ = uE at *
    have x1 : IntKind.i64.wrap (y8 + 4) = y8 + 4 := IntWalk.i64_in _ ⟨by omega, by omega⟩
    have x2 : IntKind.i64.wrap (y8 + 2) = y8 + 2 := IntWalk.i64_in _ ⟨by omega, by omega⟩
    have x3 : IntKind.i64.wrap (y3 + 2) = y3 + 2 := IntWalk.i64_in _ ⟨by omega, by omega⟩
    rcases fP with ⟨rfl, rfl, rfl, g1, g2⟩ | ⟨rfl, g1⟩ | ⟨rfl, g1, g2⟩
    · rcases fQ with ⟨rfl, rfl, rfl, g3⟩ | ⟨rfl, g3⟩
      · go_enter Try.func5, Try.ntmps5
        go_wp2_with (first
          | (go_at_call 6; with_reducible refine cM.mono ?_; rintro e w1 ⟨rfl, hb1⟩; obtain ⟨hs1, hbw1⟩ := HB.out w1 hb1; obtain ⟨q0, q1, q2, q3⟩ := hs1.cells)
          | (go_at_call 7; with_reducible refine (cA w1).mono ?_; rintro e w2 ⟨rfl, hb2⟩; have hbw2 := next hbw1 hb2; have hs2 := hs1.kept hb2; obtain ⟨v0, v1, v2, v3⟩ := hs2.cells; have hl2 := hs2.lt)
          | (go_at_call 7; with_reducible refine (cP _).mono ?_; rintro e w3 ⟨rfl, hb3⟩; have hbw3 := grown2 hbw2 (.cells #[.int .i64 1, .int .i64 2, .int .i64 s.rm, .int .i64 y3, .int .i64 y4, .int .i64 y5, .int .i64 y6, .int .i64 y7, .int .i64 y8] 28) (.cells #[.int .i64 (s.pg + 1), .int .i64 s.sl, .int .i64 s.rt, .int .i64 s.rm] 23) hb3; have hs3 := ((hs2.more (.cells #[.int .i64 1, .int .i64 2, .int .i64 s.rm, .int .i64 y3, .int .i64 y4, .int .i64 y5, .int .i64 y6, .int .i64 y7, .int .i64 y8] 28)).more (.cells #[.int .i64 (s.pg + 1), .int .i64 s.sl, .int .i64 s.rt, .int .i64 s.rm] 23)).kept hb3; have hA3 := ((bxA_new w2 ⟨1, 2, s.rm, y3, y4, y5, y6, y7, y8⟩).more (.cells #[.int .i64 (s.pg + 1), .int .i64 s.sl, .int .i64 s.rt, .int .i64 s.rm] 23)).kept hb3; obtain ⟨v4, v5, v6, v7⟩ := hs3.cells; have hl3 := hs3.lt)
          | (go_at_call 7; with_reducible refine (cQ _).mono ?_; rintro e w4 ⟨rfl, hb4⟩; have hbw4 := grown2 hbw3 (.cells #[.int .i64 p0, .int .i64 p1, .int .i64 p2, .int .i64 p3, .int .i64 p4, .int .i64 p5, .int .i64 p6, .int .i64 y7, .int .i64 (y8 + 4)] 28) (.cells #[.int .i64 s.pg, .int .i64 s.sl, .int .i64 s.rt, .int .i64 (s.rm + 1)] 23) hb4; have hs4 := ((hs3.more (.cells #[.int .i64 p0, .int .i64 p1, .int .i64 p2, .int .i64 p3, .int .i64 p4, .int .i64 p5, .int .i64 p6, .int .i64 y7, .int .i64 (y8 + 4)] 28)).more (.cells #[.int .i64 s.pg, .int .i64 s.sl, .int .i64 s.rt, .int .i64 (s.rm + 1)] 23)).kept hb4; have hA4 := ((hA3.more (.cells #[.int .i64 p0, .int .i64 p1, .int .i64 p2, .int .i64 p3, .int .i64 p4, .int .i64 p5, .int .i64 p6, .int .i64 y7, .int .i64 (y8 + 4)] 28)).more (.cells #[.int .i64 s.pg, .int .i64 s.sl, .int .i64 s.rt, .int .i64 (s.rm + 1)] 23)).kept hb4; have hB4 := ((bxA_new w3 ⟨p0, p1, p2, p3, p4, p5, p6, y7, (y8 + 4)⟩).more (.cells #[.int .i64 s.pg, .int .i64 s.sl, .int .i64 s.rt, .int .i64 (s.rm + 1)] 23)).kept hb4; obtain ⟨z0, -, -, -⟩ := hs4.cells; obtain ⟨-, -, -, a3, -, -, -, a7, a8⟩ := hA4.cells; obtain ⟨-, -, -, -, -, -, -, b7, b8⟩ := hB4.cells; have hl4 := hs4.lt; have hm4 := hA4.lt; have hn4 := hB4.lt; clear hs4 hA4 hB4 hs3 hA3 hs2 hs1 v0 v1 v2 v3 v4 v5 v6 v7 q0 q1 q2 q3 hl2 hl3))
        go_ret
        exact ⟨ret_bool (by first | (simp; done) | (simp; omega)), hbw4.alloc hbw4.size _⟩
      · exact absurd g3 (by omega)
    · rcases fQ with ⟨rfl, rfl, rfl, g3⟩ | ⟨rfl, g3⟩
      · go_enter Try.func5, Try.ntmps5
        go_wp2_with (first
          | (go_at_call 6; with_reducible refine cM.mono ?_; rintro e w1 ⟨rfl, hb1⟩; obtain ⟨hs1, hbw1⟩ := HB.out w1 hb1; obtain ⟨q0, q1, q2, q3⟩ := hs1.cells)
          | (go_at_call 7; with_reducible refine (cA w1).mono ?_; rintro e w2 ⟨rfl, hb2⟩; have hbw2 := next hbw1 hb2; have hs2 := hs1.kept hb2; obtain ⟨v0, v1, v2, v3⟩ := hs2.cells; have hl2 := hs2.lt)
          | (go_at_call 7; with_reducible refine (cP _).mono ?_; rintro e w3 ⟨rfl, hb3⟩; have hbw3 := grown2 hbw2 (.cells #[.int .i64 1, .int .i64 2, .int .i64 s.rm, .int .i64 y3, .int .i64 y4, .int .i64 y5, .int .i64 y6, .int .i64 y7, .int .i64 y8] 28) (.cells #[.int .i64 (s.pg + 1), .int .i64 s.sl, .int .i64 s.rt, .int .i64 s.rm] 23) hb3; have hs3 := ((hs2.more (.cells #[.int .i64 1, .int .i64 2, .int .i64 s.rm, .int .i64 y3, .int .i64 y4, .int .i64 y5, .int .i64 y6, .int .i64 y7, .int .i64 y8] 28)).more (.cells #[.int .i64 (s.pg + 1), .int .i64 s.sl, .int .i64 s.rt, .int .i64 s.rm] 23)).kept hb3; have hA3 := ((bxA_new w2 ⟨1, 2, s.rm, y3, y4, y5, y6, y7, y8⟩).more (.cells #[.int .i64 (s.pg + 1), .int .i64 s.sl, .int .i64 s.rt, .int .i64 s.rm] 23)).kept hb3; obtain ⟨v4, v5, v6, v7⟩ := hs3.cells; have hl3 := hs3.lt)
          | (go_at_call 7; with_reducible refine (cQ _).mono ?_; rintro e w4 ⟨rfl, hb4⟩; have hbw4 := grown2 hbw3 (.cells #[.int .i64 p0, .int .i64 p1, .int .i64 p2, .int .i64 p3, .int .i64 p4, .int .i64 p5, .int .i64 p6, .int .i64 p7, .int .i64 p8] 28) (.cells #[.int .i64 s.pg, .int .i64 s.sl, .int .i64 s.rt, .int .i64 (s.rm + 1)] 23) hb4; have hs4 := ((hs3.more (.cells #[.int .i64 p0, .int .i64 p1, .int .i64 p2, .int .i64 p3, .int .i64 p4, .int .i64 p5, .int .i64 p6, .int .i64 p7, .int .i64 p8] 28)).more (.cells #[.int .i64 s.pg, .int .i64 s.sl, .int .i64 s.rt, .int .i64 (s.rm + 1)] 23)).kept hb4; have hA4 := ((hA3.more (.cells #[.int .i64 p0, .int .i64 p1, .int .i64 p2, .int .i64 p3, .int .i64 p4, .int .i64 p5, .int .i64 p6, .int .i64 p7, .int .i64 p8] 28)).more (.cells #[.int .i64 s.pg, .int .i64 s.sl, .int .i64 s.rt, .int .i64 (s.rm + 1)] 23)).kept hb4; have hB4 := ((bxA_new w3 ⟨p0, p1, p2, p3, p4, p5, p6, p7, p8⟩).more (.cells #[.int .i64 s.pg, .int .i64 s.sl, .int .i64 s.rt, .int .i64 (s.rm + 1)] 23)).kept hb4; obtain ⟨z0, -, -, -⟩ := hs4.cells; obtain ⟨-, -, -, a3, -, -, -, a7, a8⟩ := hA4.cells; obtain ⟨-, -, -, -, -, -, -, b7, b8⟩ := hB4.cells; have hl4 := hs4.lt; have hm4 := hA4.lt; have hn4 := hB4.lt; clear hs4 hA4 hB4 hs3 hA3 hs2 hs1 v0 v1 v2 v3 v4 v5 v6 v7 q0 q1 q2 q3 hl2 hl3))
        go_ret
        exact ⟨ret_bool (by first | (simp; done) | (simp; omega)), hbw4.alloc hbw4.size _⟩
      · go_enter Try.func5, Try.ntmps5
        go_wp2_with (first
          | (go_at_call 6; with_reducible refine cM.mono ?_; rintro e w1 ⟨rfl, hb1⟩; obtain ⟨hs1, hbw1⟩ := HB.out w1 hb1; obtain ⟨q0, q1, q2, q3⟩ := hs1.cells)
          | (go_at_call 7; with_reducible refine (cA w1).mono ?_; rintro e w2 ⟨rfl, hb2⟩; have hbw2 := next hbw1 hb2; have hs2 := hs1.kept hb2; obtain ⟨v0, v1, v2, v3⟩ := hs2.cells; have hl2 := hs2.lt)
          | (go_at_call 7; with_reducible refine (cP _).mono ?_; rintro e w3 ⟨rfl, hb3⟩; have hbw3 := grown2 hbw2 (.cells #[.int .i64 1, .int .i64 2, .int .i64 s.rm, .int .i64 y3, .int .i64 y4, .int .i64 y5, .int .i64 y6, .int .i64 y7, .int .i64 y8] 28) (.cells #[.int .i64 (s.pg + 1), .int .i64 s.sl, .int .i64 s.rt, .int .i64 s.rm] 23) hb3; have hs3 := ((hs2.more (.cells #[.int .i64 1, .int .i64 2, .int .i64 s.rm, .int .i64 y3, .int .i64 y4, .int .i64 y5, .int .i64 y6, .int .i64 y7, .int .i64 y8] 28)).more (.cells #[.int .i64 (s.pg + 1), .int .i64 s.sl, .int .i64 s.rt, .int .i64 s.rm] 23)).kept hb3; have hA3 := ((bxA_new w2 ⟨1, 2, s.rm, y3, y4, y5, y6, y7, y8⟩).more (.cells #[.int .i64 (s.pg + 1), .int .i64 s.sl, .int .i64 s.rt, .int .i64 s.rm] 23)).kept hb3; obtain ⟨v4, v5, v6, v7⟩ := hs3.cells; have hl3 := hs3.lt)
          | (go_at_call 7; with_reducible refine (cQ _).mono ?_; rintro e w4 ⟨rfl, hb4⟩; have hbw4 := grown2 hbw3 (.cells #[.int .i64 p0, .int .i64 p1, .int .i64 p2, .int .i64 p3, .int .i64 p4, .int .i64 p5, .int .i64 p6, .int .i64 p7, .int .i64 p8] 28) (.cells #[.int .i64 s.pg, .int .i64 s.sl, .int .i64 s.rt, .int .i64 (s.rm + 1)] 23) hb4; have hs4 := ((hs3.more (.cells #[.int .i64 p0, .int .i64 p1, .int .i64 p2, .int .i64 p3, .int .i64 p4, .int .i64 p5, .int .i64 p6, .int .i64 p7, .int .i64 p8] 28)).more (.cells #[.int .i64 s.pg, .int .i64 s.sl, .int .i64 s.rt, .int .i64 (s.rm + 1)] 23)).kept hb4; have hA4 := ((hA3.more (.cells #[.int .i64 p0, .int .i64 p1, .int .i64 p2, .int .i64 p3, .int .i64 p4, .int .i64 p5, .int .i64 p6, .int .i64 p7, .int .i64 p8] 28)).more (.cells #[.int .i64 s.pg, .int .i64 s.sl, .int .i64 s.rt, .int .i64 (s.rm + 1)] 23)).kept hb4; have hB4 := ((bxA_new w3 ⟨p0, p1, p2, p3, p4, p5, p6, p7, p8⟩).more (.cells #[.int .i64 s.pg, .int .i64 s.sl, .int .i64 s.rt, .int .i64 (s.rm + 1)] 23)).kept hb4; obtain ⟨z0, -, -, -⟩ := hs4.cells; obtain ⟨-, -, -, a3, -, -, -, a7, a8⟩ := hA4.cells; obtain ⟨-, -, -, -, -, -, -, b7, b8⟩ := hB4.cells; have hl4 := hs4.lt; have hm4 := hA4.lt; have hn4 := hB4.lt; clear hs4 hA4 hB4 hs3 hA3 hs2 hs1 v0 v1 v2 v3 v4 v5 v6 v7 q0 q1 q2 q3 hl2 hl3))
        go_ret
        exact ⟨ret_bool (by first | (simp; done) | (simp; omega)), hbw4.alloc hbw4.size _⟩
    · rcases fQ with ⟨rfl, rfl, rfl, g3⟩ | ⟨rfl, g3⟩
      · go_enter Try.func5, Try.ntmps5
        go_wp2_with (first
          | (go_at_call 6; with_reducible refine cM.mono ?_; rintro e w1 ⟨rfl, hb1⟩; obtain ⟨hs1, hbw1⟩ := HB.out w1 hb1; obtain ⟨q0, q1, q2, q3⟩ := hs1.cells)
          | (go_at_call 7; with_reducible refine (cA w1).mono ?_; rintro e w2 ⟨rfl, hb2⟩; have hbw2 := next hbw1 hb2; have hs2 := hs1.kept hb2; obtain ⟨v0, v1, v2, v3⟩ := hs2.cells; have hl2 := hs2.lt)
          | (go_at_call 7; with_reducible refine (cP _).mono ?_; rintro e w3 ⟨rfl, hb3⟩; have hbw3 := grown2 hbw2 (.cells #[.int .i64 1, .int .i64 2, .int .i64 s.rm, .int .i64 y3, .int .i64 y4, .int .i64 y5, .int .i64 y6, .int .i64 y7, .int .i64 y8] 28) (.cells #[.int .i64 (s.pg + 1), .int .i64 s.sl, .int .i64 s.rt, .int .i64 s.rm] 23) hb3; have hs3 := ((hs2.more (.cells #[.int .i64 1, .int .i64 2, .int .i64 s.rm, .int .i64 y3, .int .i64 y4, .int .i64 y5, .int .i64 y6, .int .i64 y7, .int .i64 y8] 28)).more (.cells #[.int .i64 (s.pg + 1), .int .i64 s.sl, .int .i64 s.rt, .int .i64 s.rm] 23)).kept hb3; have hA3 := ((bxA_new w2 ⟨1, 2, s.rm, y3, y4, y5, y6, y7, y8⟩).more (.cells #[.int .i64 (s.pg + 1), .int .i64 s.sl, .int .i64 s.rt, .int .i64 s.rm] 23)).kept hb3; obtain ⟨v4, v5, v6, v7⟩ := hs3.cells; have hl3 := hs3.lt)
          | (go_at_call 7; with_reducible refine (cQ _).mono ?_; rintro e w4 ⟨rfl, hb4⟩; have hbw4 := grown2 hbw3 (.cells #[.int .i64 p0, .int .i64 p1, .int .i64 p2, .int .i64 p3, .int .i64 p4, .int .i64 p5, .int .i64 p6, .int .i64 p7, .int .i64 p8] 28) (.cells #[.int .i64 s.pg, .int .i64 s.sl, .int .i64 s.rt, .int .i64 (s.rm + 1)] 23) hb4; have hs4 := ((hs3.more (.cells #[.int .i64 p0, .int .i64 p1, .int .i64 p2, .int .i64 p3, .int .i64 p4, .int .i64 p5, .int .i64 p6, .int .i64 p7, .int .i64 p8] 28)).more (.cells #[.int .i64 s.pg, .int .i64 s.sl, .int .i64 s.rt, .int .i64 (s.rm + 1)] 23)).kept hb4; have hA4 := ((hA3.more (.cells #[.int .i64 p0, .int .i64 p1, .int .i64 p2, .int .i64 p3, .int .i64 p4, .int .i64 p5, .int .i64 p6, .int .i64 p7, .int .i64 p8] 28)).more (.cells #[.int .i64 s.pg, .int .i64 s.sl, .int .i64 s.rt, .int .i64 (s.rm + 1)] 23)).kept hb4; have hB4 := ((bxA_new w3 ⟨p0, p1, p2, p3, p4, p5, p6, p7, p8⟩).more (.cells #[.int .i64 s.pg, .int .i64 s.sl, .int .i64 s.rt, .int .i64 (s.rm + 1)] 23)).kept hb4; obtain ⟨z0, -, -, -⟩ := hs4.cells; obtain ⟨-, -, -, a3, -, -, -, a7, a8⟩ := hA4.cells; obtain ⟨-, -, -, -, -, -, -, b7, b8⟩ := hB4.cells; have hl4 := hs4.lt; have hm4 := hA4.lt; have hn4 := hB4.lt; clear hs4 hA4 hB4 hs3 hA3 hs2 hs1 v0 v1 v2 v3 v4 v5 v6 v7 q0 q1 q2 q3 hl2 hl3))
        go_ret
        exact ⟨ret_bool (by first | (simp; done) | (simp; omega)), hbw4.alloc hbw4.size _⟩
      · go_enter Try.func5, Try.ntmps5
        go_wp2_with (first
          | (go_at_call 6; with_reducible refine cM.mono ?_; rintro e w1 ⟨rfl, hb1⟩; obtain ⟨hs1, hbw1⟩ := HB.out w1 hb1; obtain ⟨q0, q1, q2, q3⟩ := hs1.cells)
          | (go_at_call 7; with_reducible refine (cA w1).mono ?_; rintro e w2 ⟨rfl, hb2⟩; have hbw2 := next hbw1 hb2; have hs2 := hs1.kept hb2; obtain ⟨v0, v1, v2, v3⟩ := hs2.cells; have hl2 := hs2.lt)
          | (go_at_call 7; with_reducible refine (cP _).mono ?_; rintro e w3 ⟨rfl, hb3⟩; have hbw3 := grown2 hbw2 (.cells #[.int .i64 1, .int .i64 2, .int .i64 s.rm, .int .i64 y3, .int .i64 y4, .int .i64 y5, .int .i64 y6, .int .i64 y7, .int .i64 y8] 28) (.cells #[.int .i64 (s.pg + 1), .int .i64 s.sl, .int .i64 s.rt, .int .i64 s.rm] 23) hb3; have hs3 := ((hs2.more (.cells #[.int .i64 1, .int .i64 2, .int .i64 s.rm, .int .i64 y3, .int .i64 y4, .int .i64 y5, .int .i64 y6, .int .i64 y7, .int .i64 y8] 28)).more (.cells #[.int .i64 (s.pg + 1), .int .i64 s.sl, .int .i64 s.rt, .int .i64 s.rm] 23)).kept hb3; have hA3 := ((bxA_new w2 ⟨1, 2, s.rm, y3, y4, y5, y6, y7, y8⟩).more (.cells #[.int .i64 (s.pg + 1), .int .i64 s.sl, .int .i64 s.rt, .int .i64 s.rm] 23)).kept hb3; obtain ⟨v4, v5, v6, v7⟩ := hs3.cells; have hl3 := hs3.lt)
          | (go_at_call 7; with_reducible refine (cQ _).mono ?_; rintro e w4 ⟨rfl, hb4⟩; have hbw4 := grown2 hbw3 (.cells #[.int .i64 p0, .int .i64 p1, .int .i64 p2, .int .i64 p3, .int .i64 p4, .int .i64 p5, .int .i64 p6, .int .i64 p7, .int .i64 p8] 28) (.cells #[.int .i64 s.pg, .int .i64 s.sl, .int .i64 s.rt, .int .i64 (s.rm + 1)] 23) hb4; have hs4 := ((hs3.more (.cells #[.int .i64 p0, .int .i64 p1, .int .i64 p2, .int .i64 p3, .int .i64 p4, .int .i64 p5, .int .i64 p6, .int .i64 p7, .int .i64 p8] 28)).more (.cells #[.int .i64 s.pg, .int .i64 s.sl, .int .i64 s.rt, .int .i64 (s.rm + 1)] 23)).kept hb4; have hA4 := ((hA3.more (.cells #[.int .i64 p0, .int .i64 p1, .int .i64 p2, .int .i64 p3, .int .i64 p4, .int .i64 p5, .int .i64 p6, .int .i64 p7, .int .i64 p8] 28)).more (.cells #[.int .i64 s.pg, .int .i64 s.sl, .int .i64 s.rt, .int .i64 (s.rm + 1)] 23)).kept hb4; have hB4 := ((bxA_new w3 ⟨p0, p1, p2, p3, p4, p5, p6, p7, p8⟩).more (.cells #[.int .i64 s.pg, .int .i64 s.sl, .int .i64 s.rt, .int .i64 (s.rm + 1)] 23)).kept hb4; obtain ⟨z0, -, -, -⟩ := hs4.cells; obtain ⟨-, -, -, a3, -, -, -, a7, a8⟩ := hA4.cells; obtain ⟨-, -, -, -, -, -, -, b7, b8⟩ := hB4.cells; have hl4 := hs4.lt; have hm4 := hA4.lt; have hn4 := hB4.lt; clear hs4 hA4 hB4 hs3 hA3 hs2 hs1 v0 v1 v2 v3 v4 v5 v6 v7 q0 q1 q2 q3 hl2 hl3))
        go_ret
        exact ⟨ret_bool (by first | (simp; done) | (simp; omega)), hbw4.alloc hbw4.size _⟩
  · obtain ⟨e0, e1, e2, e3, e4, e5, e6, e7, e8, eE⟩ := ar_f hr
    rw [e0, e1, e2, e3, e4, e5, e6, e7, e8, eE] at cA
    clear hr hs hb0 e0 e1 e2 e3 e4 e5 e6 e7 e8 eE
    go_enter Try.func5, Try.ntmps5
    go_wp2_with (first
      | (go_at_call 6; with_reducible refine cM.mono ?_; rintro e w1 ⟨rfl, hb1⟩; obtain ⟨hs1, hbw1⟩ := HB.out w1 hb1; obtain ⟨q0, q1, q2, q3⟩ := hs1.cells)
      | (go_at_call 7; with_reducible refine (cA w1).mono ?_; rintro e w2 ⟨rfl, hb2⟩; have hbw2 := next hbw1 hb2))
    go_ret
    exact ⟨ret_bool (by simp), (hbw2.alloc hbw2.size _)⟩
end Go.Proofs.Ytgjigjjlkpkjeaa
