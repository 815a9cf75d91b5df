/- RootsKeeps: the walk. -/
import Derived.Test.YtmefepjjlhphnaaSmallRoot
namespace Go.Proofs.Ytmefepjjlhphnaa
set_option maxRecDepth 100000
open Go.RowKit
set_option linter.unusedVariables false
set_option linter.unusedSimpArgs false
set_option maxRecDepth 100000

theorem eqN_t {a b : ByteArray} (h : a = b) : (a.toList == b.toList) = true := sameN_t h
theorem eqN_f {a b : ByteArray} (h : a ≠ b) : (a.toList == b.toList) = false := sameN_f h
theorem stE_of {l : List Rt} {x : ByteArray} {I G : Int} (hs : StOk l x I G) : stE l x I G = 0 := by
  cases e : stO l x with
  | none => have := hs.2.2.2; rw [e] at this; cases this
  | some j => exact (st_t hs.1 hs.2.1 hs.2.2.1 e).1
set_option maxHeartbeats 4000000 in
theorem rootsKeeps_walk (w : World) (ao : Option Addr) (n cap : Nat) (l : List Rt) (h : Rs w ao n cap l) (hreach : cap * 32 ≤ 140737488351232) (x : ByteArray) (hx : x.size ≤ maxLen) (I G : Int) (y : ByteArray) (hy : y.size ≤ maxLen) :
    Calls Try.prog 5 #[.slice ao n cap, .string x, .agg #[.int .i64 I, .int .i64 G], .string y] w fun e w' => e = .returned (.bool true) ∧ Below w.heap.size w w' := by
  have hl := h.len
  have hroom := h.room
  have hn : n ≤ 9223372036854775806 := by omega
  have hn' : n ≤ 9223372036854775807 := by omega
  have hx' : x.size ≤ 9223372036854775807 := by unfold maxLen at hx; omega
  have hy' : y.size ≤ 9223372036854775807 := by unfold maxLen at hy; omega
  clear hx hy
  have bX : Below w.heap.size w (w.alloc (.cells #[.int .i64 I, .int .i64 G] 29)) := (Below.refl _ w).alloc (Nat.le_refl _) _
  have xX := bxR_new w I G
  have cF : ∀ wr, Below w.heap.size w wr → _ := fun wr hb => few_rs ao n cap l wr (h.below hb) hn

  by_cases hf : FewR l
  · rw [fewB_t hf] at cF
    by_cases hxs : x.size ≤ 1024
    · have hxs' : ¬ (1024 < (x.size : Int)) := by omega
      by_cases hys : y.size ≤ 1024
      · have hys' : ¬ (1024 < (y.size : Int)) := by omega
        have cG : ∀ wr, Below w.heap.size w wr → _ := fun wr hb => get_rs ao n cap l y wr (h.below hb) hn' hy'
        by_cases hd : HvOk l x
        · by_cases hs : StOk l x I G
          · skip
            obtain ⟨k, hk, _, eL, hR, hlen, g0, gI, gG, gy⟩ := set_keeps hs
            have hs0 := stE_of hs
            obtain ⟨M, hM⟩ : ∃ M, stL l x I G = M := ⟨_, rfl⟩
            rw [hM] at eL hR hlen g0 gI gG gy
            have cS : ∀ wr, Below w.heap.size w wr → Calls Try.prog 16 #[.slice ao n cap, .string x, .agg #[.int .i64 I, .int .i64 G]] wr fun e w' => ∃ bo c, e = .returned (.tuple #[.slice bo n c, .int .i64 0]) ∧ OwR wr.heap.size w' bo n c M ∧ Below wr.heap.size wr w' := fun wr hb => (set_rs ao n cap l x I G wr (h.below hb) hn' hx').mono (by
              rintro e w' ⟨bo, m, c, rfl, ho, hb'⟩
              rw [hM] at ho
              obtain rfl : n = m := by rw [← ho.len, hlen, hl]
              exact ⟨bo, c, by rw [hs0], ho, hb'⟩)
            have cMx : ∀ a c wr, Rs wr a n c M → Calls Try.prog 11 #[.slice a n c, .string x] wr fun e w' => e = .returned (.tuple #[.agg #[.int .i64 I, .int .i64 G], .int .i64 0]) ∧ Below wr.heap.size wr w' := fun a c wr hr => by
              have := get_rs a n c M x wr hr hn' hx'
              rwa [g0, gI, gG] at this
            have cMR : ∀ a c wr, Rs wr a n c M → Calls Try.prog 14 #[.slice a n c] wr fun e w' => e = .returned (.bool true) ∧ Below wr.heap.size wr w' := fun a c wr hr => by
              have := rightR_rs a n c M wr hr hn'
              rwa [rightRB_t hR] at this
            have cMy : ∀ a c wr, Rs wr a n c M → _ := fun a c wr hr => get_rs a n c M y wr hr hn' hy'
            obtain ⟨dR, d0, dI, dG, dy⟩ := drop_keeps hd
            have hd0 := (hv_t hd).1
            have hdl : (drL l x).length = n := by rw [dr_t hd, List.length_set, hl]
            obtain ⟨D, hD⟩ : ∃ D, drL l x = D := ⟨_, rfl⟩
            rw [hD] at dR d0 dI dG dy hdl
            have cD : ∀ wr, Below w.heap.size w wr → Calls Try.prog 17 #[.slice ao n cap, .string x] wr fun e w' => ∃ bo c, e = .returned (.tuple #[.slice bo n c, .int .i64 0]) ∧ OwR wr.heap.size w' bo n c D ∧ Below wr.heap.size wr w' := fun wr hb => (drop_rs ao n cap l x wr (h.below hb) hn' hx').mono (by
              rintro e w' ⟨bo, m, c, rfl, ho, hb'⟩
              rw [hD] at ho
              obtain rfl : n = m := by rw [← ho.len, hdl]
              exact ⟨bo, c, by rw [hd0], ho, hb'⟩)
            have cDx : ∀ a c wr, Rs wr a n c D → Calls Try.prog 11 #[.slice a n c, .string x] wr fun e w' => e = .returned (.tuple #[.agg #[.int .i64 0, .int .i64 0], .int .i64 11]) ∧ Below wr.heap.size wr w' := fun a c wr hr => by
              have := get_rs a n c D x wr hr hn' hx'
              rwa [d0, dI, dG] at this
            have cDR : ∀ a c wr, Rs wr a n c D → Calls Try.prog 14 #[.slice a n c] wr fun e w' => e = .returned (.bool true) ∧ Below wr.heap.size wr w' := fun a c wr hr => by
              have := rightR_rs a n c D wr hr hn'
              rwa [rightRB_t dR] at this
            have cDy : ∀ a c wr, Rs wr a n c D → _ := fun a c wr hr => get_rs a n c D y wr hr hn' hy'
            by_cases hyx : y = x
            · have hq := eqN_t hyx
              generalize gtI l y = Iy at *
              generalize gtG l y = Gy at *
              generalize hvE l y = Ey at *
              generalize gtI M y = Iz at *
              generalize gtG M y = Gz at *
              generalize hvE M y = Ez at *
              generalize gtI D y = Iu at *
              generalize gtG D y = Gu at *
              generalize hvE D y = Eu at *
              clear h hl hroom hreach hf hs gy hR hlen g0 gI gG eL hM hs0 hk hd dy dR d0 dI dG hD hdl hd0 hyx
              go_enter Try.func5, Try.ntmps5
              go_wp2_with (first
                | (go_at_call 7; with_reducible refine (smallR_any _).mono ?_; rintro e w1 ⟨rfl, hb1⟩; have b1 := next bX hb1; have x1 := xX.kept hb1)
                | (go_at_call 8; with_reducible refine (cF _ b1).mono ?_; rintro e w' ⟨rfl, rfl⟩)
                | (go_at_call 11; with_reducible refine (cG _ b1).mono ?_; rintro e w2 ⟨rfl, hb2⟩; have b2 := nextR (next b1 hb2) (.cells #[.int .i64 Iy, .int .i64 Gy] 29); have x2 := (x1.kept hb2).more (.cells #[.int .i64 Iy, .int .i64 Gy] 29); have y2 := bxR_new w2 Iy Gy; obtain ⟨u0, u1, _, _⟩ := x2.cells)
                | (go_at_call 16; with_reducible refine (cS _ b2).mono ?_; rintro e w3 ⟨a3, k3, rfl, o3, hb3⟩; have b3 := next b2 hb3; have x3 := x2.kept hb3; have y3 := y2.kept hb3)
                | (go_at_call 11; with_reducible refine (cMx a3 k3 w3 o3.rs).mono ?_; rintro e w4 ⟨rfl, hb4⟩; have b4 := nextR (next b3 hb4) (.cells #[.int .i64 I, .int .i64 G] 29); have x4 := (x3.kept hb4).more (.cells #[.int .i64 I, .int .i64 G] 29); have y4 := (y3.kept hb4).more (.cells #[.int .i64 I, .int .i64 G] 29); have o4 := (o3.below hb4).below (below_moreR w4 (.cells #[.int .i64 I, .int .i64 G] 29)); have z4 := bxR_new w4 I G)
                | (go_at_call 11; with_reducible refine (cMy a3 k3 _ o4.rs).mono ?_; rintro e w5 ⟨rfl, hb5⟩; have b5 := nextR (next b4 hb5) (.cells #[.int .i64 Iz, .int .i64 Gz] 29); have x5 := (x4.kept hb5).more (.cells #[.int .i64 Iz, .int .i64 Gz] 29); have y5 := (y4.kept hb5).more (.cells #[.int .i64 Iz, .int .i64 Gz] 29); have z5 := (z4.kept hb5).more (.cells #[.int .i64 Iz, .int .i64 Gz] 29); have o5 := (o4.below hb5).below (below_moreR w5 (.cells #[.int .i64 Iz, .int .i64 Gz] 29)); have v5 := bxR_new w5 Iz Gz; obtain ⟨p0, p1, _, _⟩ := x5.cells; obtain ⟨q0, q1, _, _⟩ := z5.cells)
                | (go_at_call 14; with_reducible refine (cMR a3 k3 _ o5.rs).mono ?_; rintro e w6 ⟨rfl, hb6⟩; have b6 := next b5 hb6; have y6 := y5.kept hb6; have v6 := v5.kept hb6; obtain ⟨r0, r1, _, _⟩ := y6.cells; obtain ⟨s0, s1, _, _⟩ := v6.cells)
                | (go_at_call 17; with_reducible refine (cD _ b6).mono ?_; rintro e w7 ⟨a7, k7, rfl, o7, hb7⟩; have b7 := next b6 hb7; have y7 := y6.kept hb7)
                | (go_at_call 11; with_reducible refine (cDx a7 k7 w7 o7.rs).mono ?_; rintro e w8 ⟨rfl, hb8⟩; have b8 := nextR (next b7 hb8) (.cells #[.int .i64 0, .int .i64 0] 29); have y8 := (y7.kept hb8).more (.cells #[.int .i64 0, .int .i64 0] 29); have o8 := (o7.below hb8).below (below_moreR w8 (.cells #[.int .i64 0, .int .i64 0] 29)))
                | (go_at_call 11; with_reducible refine (cDy a7 k7 _ o8.rs).mono ?_; rintro e w9 ⟨rfl, hb9⟩; have b9 := nextR (next b8 hb9) (.cells #[.int .i64 Iu, .int .i64 Gu] 29); have y9 := (y8.kept hb9).more (.cells #[.int .i64 Iu, .int .i64 Gu] 29); have o9 := (o8.below hb9).below (below_moreR w9 (.cells #[.int .i64 Iu, .int .i64 Gu] 29)); have v9 := bxR_new w9 Iu Gu)
                | (go_at_call 14; with_reducible refine (cDR a7 k7 _ o9.rs).mono ?_; rintro e wa ⟨rfl, hba⟩; have ba := next b9 hba; obtain ⟨t0, t1, _, _⟩ := (y9.kept hba).cells; obtain ⟨l0, l1, _, _⟩ := (v9.kept hba).cells))
              go_ret
              exact ⟨rfl, ba⟩
            · have hq := eqN_f hyx
              obtain ⟨g1, g2, g3⟩ := gy y hyx
              rw [g1, g2, g3] at cMy
              obtain ⟨g4, g5, g6⟩ := dy y hyx
              rw [g4, g5, g6] at cDy
              generalize gtI l y = Iy at *
              generalize gtG l y = Gy at *
              generalize hvE l y = Ey at *
              clear h hl hroom hreach hf hs gy hR hlen g0 gI gG eL hM hs0 hk hd dy dR d0 dI dG hD hdl hd0 hyx g1 g2 g3 g4 g5 g6
              go_enter Try.func5, Try.ntmps5
              go_wp2_with (first
                | (go_at_call 7; with_reducible refine (smallR_any _).mono ?_; rintro e w1 ⟨rfl, hb1⟩; have b1 := next bX hb1; have x1 := xX.kept hb1)
                | (go_at_call 8; with_reducible refine (cF _ b1).mono ?_; rintro e w' ⟨rfl, rfl⟩)
                | (go_at_call 11; with_reducible refine (cG _ b1).mono ?_; rintro e w2 ⟨rfl, hb2⟩; have b2 := nextR (next b1 hb2) (.cells #[.int .i64 Iy, .int .i64 Gy] 29); have x2 := (x1.kept hb2).more (.cells #[.int .i64 Iy, .int .i64 Gy] 29); have y2 := bxR_new w2 Iy Gy; obtain ⟨u0, u1, _, _⟩ := x2.cells)
                | (go_at_call 16; with_reducible refine (cS _ b2).mono ?_; rintro e w3 ⟨a3, k3, rfl, o3, hb3⟩; have b3 := next b2 hb3; have x3 := x2.kept hb3; have y3 := y2.kept hb3)
                | (go_at_call 11; with_reducible refine (cMx a3 k3 w3 o3.rs).mono ?_; rintro e w4 ⟨rfl, hb4⟩; have b4 := nextR (next b3 hb4) (.cells #[.int .i64 I, .int .i64 G] 29); have x4 := (x3.kept hb4).more (.cells #[.int .i64 I, .int .i64 G] 29); have y4 := (y3.kept hb4).more (.cells #[.int .i64 I, .int .i64 G] 29); have o4 := (o3.below hb4).below (below_moreR w4 (.cells #[.int .i64 I, .int .i64 G] 29)); have z4 := bxR_new w4 I G)
                | (go_at_call 11; with_reducible refine (cMy a3 k3 _ o4.rs).mono ?_; rintro e w5 ⟨rfl, hb5⟩; have b5 := nextR (next b4 hb5) (.cells #[.int .i64 Iy, .int .i64 Gy] 29); have x5 := (x4.kept hb5).more (.cells #[.int .i64 Iy, .int .i64 Gy] 29); have y5 := (y4.kept hb5).more (.cells #[.int .i64 Iy, .int .i64 Gy] 29); have z5 := (z4.kept hb5).more (.cells #[.int .i64 Iy, .int .i64 Gy] 29); have o5 := (o4.below hb5).below (below_moreR w5 (.cells #[.int .i64 Iy, .int .i64 Gy] 29)); have v5 := bxR_new w5 Iy Gy; obtain ⟨p0, p1, _, _⟩ := x5.cells; obtain ⟨q0, q1, _, _⟩ := z5.cells)
                | (go_at_call 14; with_reducible refine (cMR a3 k3 _ o5.rs).mono ?_; rintro e w6 ⟨rfl, hb6⟩; have b6 := next b5 hb6; have y6 := y5.kept hb6; have v6 := v5.kept hb6; obtain ⟨r0, r1, _, _⟩ := y6.cells; obtain ⟨s0, s1, _, _⟩ := v6.cells)
                | (go_at_call 17; with_reducible refine (cD _ b6).mono ?_; rintro e w7 ⟨a7, k7, rfl, o7, hb7⟩; have b7 := next b6 hb7; have y7 := y6.kept hb7)
                | (go_at_call 11; with_reducible refine (cDx a7 k7 w7 o7.rs).mono ?_; rintro e w8 ⟨rfl, hb8⟩; have b8 := nextR (next b7 hb8) (.cells #[.int .i64 0, .int .i64 0] 29); have y8 := (y7.kept hb8).more (.cells #[.int .i64 0, .int .i64 0] 29); have o8 := (o7.below hb8).below (below_moreR w8 (.cells #[.int .i64 0, .int .i64 0] 29)))
                | (go_at_call 11; with_reducible refine (cDy a7 k7 _ o8.rs).mono ?_; rintro e w9 ⟨rfl, hb9⟩; have b9 := nextR (next b8 hb9) (.cells #[.int .i64 Iy, .int .i64 Gy] 29); have y9 := (y8.kept hb9).more (.cells #[.int .i64 Iy, .int .i64 Gy] 29); have o9 := (o8.below hb9).below (below_moreR w9 (.cells #[.int .i64 Iy, .int .i64 Gy] 29)); have v9 := bxR_new w9 Iy Gy)
                | (go_at_call 14; with_reducible refine (cDR a7 k7 _ o9.rs).mono ?_; rintro e wa ⟨rfl, hba⟩; have ba := next b9 hba; obtain ⟨t0, t1, _, _⟩ := (y9.kept hba).cells; obtain ⟨l0, l1, _, _⟩ := (v9.kept hba).cells))
              go_ret
              exact ⟨rfl, ba⟩
          · skip
            have hS : (stE l x I G == 0) = false := beq_eq_false_iff_ne.2 (fun e => hs (stE_zero e))
            have cS : ∀ wr, Below w.heap.size w wr → Calls Try.prog 16 #[.slice ao n cap, .string x, .agg #[.int .i64 I, .int .i64 G]] wr fun e w' => ∃ bo m c, e = .returned (.tuple #[.slice bo m c, .int .i64 (stE l x I G)]) ∧ Below wr.heap.size wr w' := fun wr hb => (set_rs ao n cap l x I G wr (h.below hb) hn' hx').mono (by
              rintro e w' ⟨bo, m, c, rfl, ho, hb'⟩
              exact ⟨bo, m, c, rfl, hb'⟩)
            generalize stE l x I G = S at *
            obtain ⟨dR, d0, dI, dG, dy⟩ := drop_keeps hd
            have hd0 := (hv_t hd).1
            have hdl : (drL l x).length = n := by rw [dr_t hd, List.length_set, hl]
            obtain ⟨D, hD⟩ : ∃ D, drL l x = D := ⟨_, rfl⟩
            rw [hD] at dR d0 dI dG dy hdl
            have cD : ∀ wr, Below w.heap.size w wr → Calls Try.prog 17 #[.slice ao n cap, .string x] wr fun e w' => ∃ bo c, e = .returned (.tuple #[.slice bo n c, .int .i64 0]) ∧ OwR wr.heap.size w' bo n c D ∧ Below wr.heap.size wr w' := fun wr hb => (drop_rs ao n cap l x wr (h.below hb) hn' hx').mono (by
              rintro e w' ⟨bo, m, c, rfl, ho, hb'⟩
              rw [hD] at ho
              obtain rfl : n = m := by rw [← ho.len, hdl]
              exact ⟨bo, c, by rw [hd0], ho, hb'⟩)
            have cDx : ∀ a c wr, Rs wr a n c D → Calls Try.prog 11 #[.slice a n c, .string x] wr fun e w' => e = .returned (.tuple #[.agg #[.int .i64 0, .int .i64 0], .int .i64 11]) ∧ Below wr.heap.size wr w' := fun a c wr hr => by
              have := get_rs a n c D x wr hr hn' hx'
              rwa [d0, dI, dG] at this
            have cDR : ∀ a c wr, Rs wr a n c D → Calls Try.prog 14 #[.slice a n c] wr fun e w' => e = .returned (.bool true) ∧ Below wr.heap.size wr w' := fun a c wr hr => by
              have := rightR_rs a n c D wr hr hn'
              rwa [rightRB_t dR] at this
            have cDy : ∀ a c wr, Rs wr a n c D → _ := fun a c wr hr => get_rs a n c D y wr hr hn' hy'
            by_cases hyx : y = x
            · have hq := eqN_t hyx
              generalize gtI l y = Iy at *
              generalize gtG l y = Gy at *
              generalize hvE l y = Ey at *
              generalize gtI D y = Iu at *
              generalize gtG D y = Gu at *
              generalize hvE D y = Eu at *
              clear h hl hroom hreach hf hd dy dR d0 dI dG hD hdl hd0 hyx
              go_enter Try.func5, Try.ntmps5
              go_wp2_with (first
                | (go_at_call 7; with_reducible refine (smallR_any _).mono ?_; rintro e w1 ⟨rfl, hb1⟩; have b1 := next bX hb1; have x1 := xX.kept hb1)
                | (go_at_call 8; with_reducible refine (cF _ b1).mono ?_; rintro e w' ⟨rfl, rfl⟩)
                | (go_at_call 11; with_reducible refine (cG _ b1).mono ?_; rintro e w2 ⟨rfl, hb2⟩; have b2 := nextR (next b1 hb2) (.cells #[.int .i64 Iy, .int .i64 Gy] 29); have x2 := (x1.kept hb2).more (.cells #[.int .i64 Iy, .int .i64 Gy] 29); have y2 := bxR_new w2 Iy Gy; obtain ⟨u0, u1, _, _⟩ := x2.cells)
                | (go_at_call 16; with_reducible refine (cS _ b2).mono ?_; rintro e w3 ⟨a3, m3, k3, rfl, hb3⟩; have b3 := next b2 hb3; have y3 := y2.kept hb3)
                | (go_at_call 17; with_reducible refine (cD _ b3).mono ?_; rintro e w7 ⟨a7, k7, rfl, o7, hb7⟩; have b7 := next b3 hb7; have y7 := y3.kept hb7)
                | (go_at_call 11; with_reducible refine (cDx a7 k7 w7 o7.rs).mono ?_; rintro e w8 ⟨rfl, hb8⟩; have b8 := nextR (next b7 hb8) (.cells #[.int .i64 0, .int .i64 0] 29); have y8 := (y7.kept hb8).more (.cells #[.int .i64 0, .int .i64 0] 29); have o8 := (o7.below hb8).below (below_moreR w8 (.cells #[.int .i64 0, .int .i64 0] 29)))
                | (go_at_call 11; with_reducible refine (cDy a7 k7 _ o8.rs).mono ?_; rintro e w9 ⟨rfl, hb9⟩; have b9 := nextR (next b8 hb9) (.cells #[.int .i64 Iu, .int .i64 Gu] 29); have y9 := (y8.kept hb9).more (.cells #[.int .i64 Iu, .int .i64 Gu] 29); have o9 := (o8.below hb9).below (below_moreR w9 (.cells #[.int .i64 Iu, .int .i64 Gu] 29)); have v9 := bxR_new w9 Iu Gu)
                | (go_at_call 14; with_reducible refine (cDR a7 k7 _ o9.rs).mono ?_; rintro e wa ⟨rfl, hba⟩; have ba := next b9 hba; obtain ⟨t0, t1, _, _⟩ := (y9.kept hba).cells; obtain ⟨l0, l1, _, _⟩ := (v9.kept hba).cells))
              go_ret
              exact ⟨rfl, ba⟩
            · have hq := eqN_f hyx
              obtain ⟨g4, g5, g6⟩ := dy y hyx
              rw [g4, g5, g6] at cDy
              generalize gtI l y = Iy at *
              generalize gtG l y = Gy at *
              generalize hvE l y = Ey at *
              clear h hl hroom hreach hf hd dy dR d0 dI dG hD hdl hd0 hyx g4 g5 g6
              go_enter Try.func5, Try.ntmps5
              go_wp2_with (first
                | (go_at_call 7; with_reducible refine (smallR_any _).mono ?_; rintro e w1 ⟨rfl, hb1⟩; have b1 := next bX hb1; have x1 := xX.kept hb1)
                | (go_at_call 8; with_reducible refine (cF _ b1).mono ?_; rintro e w' ⟨rfl, rfl⟩)
                | (go_at_call 11; with_reducible refine (cG _ b1).mono ?_; rintro e w2 ⟨rfl, hb2⟩; have b2 := nextR (next b1 hb2) (.cells #[.int .i64 Iy, .int .i64 Gy] 29); have x2 := (x1.kept hb2).more (.cells #[.int .i64 Iy, .int .i64 Gy] 29); have y2 := bxR_new w2 Iy Gy; obtain ⟨u0, u1, _, _⟩ := x2.cells)
                | (go_at_call 16; with_reducible refine (cS _ b2).mono ?_; rintro e w3 ⟨a3, m3, k3, rfl, hb3⟩; have b3 := next b2 hb3; have y3 := y2.kept hb3)
                | (go_at_call 17; with_reducible refine (cD _ b3).mono ?_; rintro e w7 ⟨a7, k7, rfl, o7, hb7⟩; have b7 := next b3 hb7; have y7 := y3.kept hb7)
                | (go_at_call 11; with_reducible refine (cDx a7 k7 w7 o7.rs).mono ?_; rintro e w8 ⟨rfl, hb8⟩; have b8 := nextR (next b7 hb8) (.cells #[.int .i64 0, .int .i64 0] 29); have y8 := (y7.kept hb8).more (.cells #[.int .i64 0, .int .i64 0] 29); have o8 := (o7.below hb8).below (below_moreR w8 (.cells #[.int .i64 0, .int .i64 0] 29)))
                | (go_at_call 11; with_reducible refine (cDy a7 k7 _ o8.rs).mono ?_; rintro e w9 ⟨rfl, hb9⟩; have b9 := nextR (next b8 hb9) (.cells #[.int .i64 Iy, .int .i64 Gy] 29); have y9 := (y8.kept hb9).more (.cells #[.int .i64 Iy, .int .i64 Gy] 29); have o9 := (o8.below hb9).below (below_moreR w9 (.cells #[.int .i64 Iy, .int .i64 Gy] 29)); have v9 := bxR_new w9 Iy Gy)
                | (go_at_call 14; with_reducible refine (cDR a7 k7 _ o9.rs).mono ?_; rintro e wa ⟨rfl, hba⟩; have ba := next b9 hba; obtain ⟨t0, t1, _, _⟩ := (y9.kept hba).cells; obtain ⟨l0, l1, _, _⟩ := (v9.kept hba).cells))
              go_ret
              exact ⟨rfl, ba⟩
        · by_cases hs : StOk l x I G
          · skip
            obtain ⟨k, hk, _, eL, hR, hlen, g0, gI, gG, gy⟩ := set_keeps hs
            have hs0 := stE_of hs
            obtain ⟨M, hM⟩ : ∃ M, stL l x I G = M := ⟨_, rfl⟩
            rw [hM] at eL hR hlen g0 gI gG gy
            have cS : ∀ wr, Below w.heap.size w wr → Calls Try.prog 16 #[.slice ao n cap, .string x, .agg #[.int .i64 I, .int .i64 G]] wr fun e w' => ∃ bo c, e = .returned (.tuple #[.slice bo n c, .int .i64 0]) ∧ OwR wr.heap.size w' bo n c M ∧ Below wr.heap.size wr w' := fun wr hb => (set_rs ao n cap l x I G wr (h.below hb) hn' hx').mono (by
              rintro e w' ⟨bo, m, c, rfl, ho, hb'⟩
              rw [hM] at ho
              obtain rfl : n = m := by rw [← ho.len, hlen, hl]
              exact ⟨bo, c, by rw [hs0], ho, hb'⟩)
            have cMx : ∀ a c wr, Rs wr a n c M → Calls Try.prog 11 #[.slice a n c, .string x] wr fun e w' => e = .returned (.tuple #[.agg #[.int .i64 I, .int .i64 G], .int .i64 0]) ∧ Below wr.heap.size wr w' := fun a c wr hr => by
              have := get_rs a n c M x wr hr hn' hx'
              rwa [g0, gI, gG] at this
            have cMR : ∀ a c wr, Rs wr a n c M → Calls Try.prog 14 #[.slice a n c] wr fun e w' => e = .returned (.bool true) ∧ Below wr.heap.size wr w' := fun a c wr hr => by
              have := rightR_rs a n c M wr hr hn'
              rwa [rightRB_t hR] at this
            have cMy : ∀ a c wr, Rs wr a n c M → _ := fun a c wr hr => get_rs a n c M y wr hr hn' hy'
            have hDn : (hvE l x != 0) = true := by have : hvE l x ≠ 0 := fun e => hd (hvE_zero e); simpa using this
            have cD : ∀ wr, Below w.heap.size w wr → Calls Try.prog 17 #[.slice ao n cap, .string x] wr fun e w' => ∃ bo m c, e = .returned (.tuple #[.slice bo m c, .int .i64 (hvE l x)]) ∧ Below wr.heap.size wr w' := fun wr hb => (drop_rs ao n cap l x wr (h.below hb) hn' hx').mono (by
              rintro e w' ⟨bo, m, c, rfl, ho, hb'⟩
              exact ⟨bo, m, c, rfl, hb'⟩)
            generalize hvE l x = X at *
            by_cases hyx : y = x
            · have hq := eqN_t hyx
              generalize gtI l y = Iy at *
              generalize gtG l y = Gy at *
              generalize hvE l y = Ey at *
              generalize gtI M y = Iz at *
              generalize gtG M y = Gz at *
              generalize hvE M y = Ez at *
              clear h hl hroom hreach hf hs gy hR hlen g0 gI gG eL hM hs0 hk hyx
              go_enter Try.func5, Try.ntmps5
              go_wp2_with (first
                | (go_at_call 7; with_reducible refine (smallR_any _).mono ?_; rintro e w1 ⟨rfl, hb1⟩; have b1 := next bX hb1; have x1 := xX.kept hb1)
                | (go_at_call 8; with_reducible refine (cF _ b1).mono ?_; rintro e w' ⟨rfl, rfl⟩)
                | (go_at_call 11; with_reducible refine (cG _ b1).mono ?_; rintro e w2 ⟨rfl, hb2⟩; have b2 := nextR (next b1 hb2) (.cells #[.int .i64 Iy, .int .i64 Gy] 29); have x2 := (x1.kept hb2).more (.cells #[.int .i64 Iy, .int .i64 Gy] 29); have y2 := bxR_new w2 Iy Gy; obtain ⟨u0, u1, _, _⟩ := x2.cells)
                | (go_at_call 16; with_reducible refine (cS _ b2).mono ?_; rintro e w3 ⟨a3, k3, rfl, o3, hb3⟩; have b3 := next b2 hb3; have x3 := x2.kept hb3; have y3 := y2.kept hb3)
                | (go_at_call 11; with_reducible refine (cMx a3 k3 w3 o3.rs).mono ?_; rintro e w4 ⟨rfl, hb4⟩; have b4 := nextR (next b3 hb4) (.cells #[.int .i64 I, .int .i64 G] 29); have x4 := (x3.kept hb4).more (.cells #[.int .i64 I, .int .i64 G] 29); have y4 := (y3.kept hb4).more (.cells #[.int .i64 I, .int .i64 G] 29); have o4 := (o3.below hb4).below (below_moreR w4 (.cells #[.int .i64 I, .int .i64 G] 29)); have z4 := bxR_new w4 I G)
                | (go_at_call 11; with_reducible refine (cMy a3 k3 _ o4.rs).mono ?_; rintro e w5 ⟨rfl, hb5⟩; have b5 := nextR (next b4 hb5) (.cells #[.int .i64 Iz, .int .i64 Gz] 29); have x5 := (x4.kept hb5).more (.cells #[.int .i64 Iz, .int .i64 Gz] 29); have y5 := (y4.kept hb5).more (.cells #[.int .i64 Iz, .int .i64 Gz] 29); have z5 := (z4.kept hb5).more (.cells #[.int .i64 Iz, .int .i64 Gz] 29); have o5 := (o4.below hb5).below (below_moreR w5 (.cells #[.int .i64 Iz, .int .i64 Gz] 29)); have v5 := bxR_new w5 Iz Gz; obtain ⟨p0, p1, _, _⟩ := x5.cells; obtain ⟨q0, q1, _, _⟩ := z5.cells)
                | (go_at_call 14; with_reducible refine (cMR a3 k3 _ o5.rs).mono ?_; rintro e w6 ⟨rfl, hb6⟩; have b6 := next b5 hb6; have y6 := y5.kept hb6; have v6 := v5.kept hb6; obtain ⟨r0, r1, _, _⟩ := y6.cells; obtain ⟨s0, s1, _, _⟩ := v6.cells)
                | (go_at_call 17; with_reducible refine (cD _ b6).mono ?_; rintro e w7 ⟨a7, m7, k7, rfl, hb7⟩; have b7 := next b6 hb7))
              go_ret
              exact ⟨rfl, b7⟩
            · have hq := eqN_f hyx
              obtain ⟨g1, g2, g3⟩ := gy y hyx
              rw [g1, g2, g3] at cMy
              generalize gtI l y = Iy at *
              generalize gtG l y = Gy at *
              generalize hvE l y = Ey at *
              clear h hl hroom hreach hf hs gy hR hlen g0 gI gG eL hM hs0 hk hyx g1 g2 g3
              go_enter Try.func5, Try.ntmps5
              go_wp2_with (first
                | (go_at_call 7; with_reducible refine (smallR_any _).mono ?_; rintro e w1 ⟨rfl, hb1⟩; have b1 := next bX hb1; have x1 := xX.kept hb1)
                | (go_at_call 8; with_reducible refine (cF _ b1).mono ?_; rintro e w' ⟨rfl, rfl⟩)
                | (go_at_call 11; with_reducible refine (cG _ b1).mono ?_; rintro e w2 ⟨rfl, hb2⟩; have b2 := nextR (next b1 hb2) (.cells #[.int .i64 Iy, .int .i64 Gy] 29); have x2 := (x1.kept hb2).more (.cells #[.int .i64 Iy, .int .i64 Gy] 29); have y2 := bxR_new w2 Iy Gy; obtain ⟨u0, u1, _, _⟩ := x2.cells)
                | (go_at_call 16; with_reducible refine (cS _ b2).mono ?_; rintro e w3 ⟨a3, k3, rfl, o3, hb3⟩; have b3 := next b2 hb3; have x3 := x2.kept hb3; have y3 := y2.kept hb3)
                | (go_at_call 11; with_reducible refine (cMx a3 k3 w3 o3.rs).mono ?_; rintro e w4 ⟨rfl, hb4⟩; have b4 := nextR (next b3 hb4) (.cells #[.int .i64 I, .int .i64 G] 29); have x4 := (x3.kept hb4).more (.cells #[.int .i64 I, .int .i64 G] 29); have y4 := (y3.kept hb4).more (.cells #[.int .i64 I, .int .i64 G] 29); have o4 := (o3.below hb4).below (below_moreR w4 (.cells #[.int .i64 I, .int .i64 G] 29)); have z4 := bxR_new w4 I G)
                | (go_at_call 11; with_reducible refine (cMy a3 k3 _ o4.rs).mono ?_; rintro e w5 ⟨rfl, hb5⟩; have b5 := nextR (next b4 hb5) (.cells #[.int .i64 Iy, .int .i64 Gy] 29); have x5 := (x4.kept hb5).more (.cells #[.int .i64 Iy, .int .i64 Gy] 29); have y5 := (y4.kept hb5).more (.cells #[.int .i64 Iy, .int .i64 Gy] 29); have z5 := (z4.kept hb5).more (.cells #[.int .i64 Iy, .int .i64 Gy] 29); have o5 := (o4.below hb5).below (below_moreR w5 (.cells #[.int .i64 Iy, .int .i64 Gy] 29)); have v5 := bxR_new w5 Iy Gy; obtain ⟨p0, p1, _, _⟩ := x5.cells; obtain ⟨q0, q1, _, _⟩ := z5.cells)
                | (go_at_call 14; with_reducible refine (cMR a3 k3 _ o5.rs).mono ?_; rintro e w6 ⟨rfl, hb6⟩; have b6 := next b5 hb6; have y6 := y5.kept hb6; have v6 := v5.kept hb6; obtain ⟨r0, r1, _, _⟩ := y6.cells; obtain ⟨s0, s1, _, _⟩ := v6.cells)
                | (go_at_call 17; with_reducible refine (cD _ b6).mono ?_; rintro e w7 ⟨a7, m7, k7, rfl, hb7⟩; have b7 := next b6 hb7))
              go_ret
              exact ⟨rfl, b7⟩
          · skip
            have hS : (stE l x I G == 0) = false := beq_eq_false_iff_ne.2 (fun e => hs (stE_zero e))
            have cS : ∀ wr, Below w.heap.size w wr → Calls Try.prog 16 #[.slice ao n cap, .string x, .agg #[.int .i64 I, .int .i64 G]] wr fun e w' => ∃ bo m c, e = .returned (.tuple #[.slice bo m c, .int .i64 (stE l x I G)]) ∧ Below wr.heap.size wr w' := fun wr hb => (set_rs ao n cap l x I G wr (h.below hb) hn' hx').mono (by
              rintro e w' ⟨bo, m, c, rfl, ho, hb'⟩
              exact ⟨bo, m, c, rfl, hb'⟩)
            generalize stE l x I G = S at *
            have hDn : (hvE l x != 0) = true := by have : hvE l x ≠ 0 := fun e => hd (hvE_zero e); simpa using this
            have cD : ∀ wr, Below w.heap.size w wr → Calls Try.prog 17 #[.slice ao n cap, .string x] wr fun e w' => ∃ bo m c, e = .returned (.tuple #[.slice bo m c, .int .i64 (hvE l x)]) ∧ Below wr.heap.size wr w' := fun wr hb => (drop_rs ao n cap l x wr (h.below hb) hn' hx').mono (by
              rintro e w' ⟨bo, m, c, rfl, ho, hb'⟩
              exact ⟨bo, m, c, rfl, hb'⟩)
            generalize hvE l x = X at *
            generalize gtI l y = Iy at *
            generalize gtG l y = Gy at *
            generalize hvE l y = Ey at *
            clear h hl hroom hreach hf
            go_enter Try.func5, Try.ntmps5
            go_wp2_with (first
              | (go_at_call 7; with_reducible refine (smallR_any _).mono ?_; rintro e w1 ⟨rfl, hb1⟩; have b1 := next bX hb1; have x1 := xX.kept hb1)
              | (go_at_call 8; with_reducible refine (cF _ b1).mono ?_; rintro e w' ⟨rfl, rfl⟩)
              | (go_at_call 11; with_reducible refine (cG _ b1).mono ?_; rintro e w2 ⟨rfl, hb2⟩; have b2 := nextR (next b1 hb2) (.cells #[.int .i64 Iy, .int .i64 Gy] 29); have x2 := (x1.kept hb2).more (.cells #[.int .i64 Iy, .int .i64 Gy] 29); have y2 := bxR_new w2 Iy Gy; obtain ⟨u0, u1, _, _⟩ := x2.cells)
              | (go_at_call 16; with_reducible refine (cS _ b2).mono ?_; rintro e w3 ⟨a3, m3, k3, rfl, hb3⟩; have b3 := next b2 hb3; have y3 := y2.kept hb3)
              | (go_at_call 17; with_reducible refine (cD _ b3).mono ?_; rintro e w7 ⟨a7, m7, k7, rfl, hb7⟩; have b7 := next b3 hb7))
            go_ret
            exact ⟨rfl, b7⟩
      · have hys' : 1024 < (y.size : Int) := by omega
        clear h hl hroom hreach hf
        go_enter Try.func5, Try.ntmps5
        go_wp2_with (first
          | (go_at_call 7; with_reducible refine (smallR_any _).mono ?_; rintro e w1 ⟨rfl, hb1⟩; have b1 := next bX hb1; have x1 := xX.kept hb1)
          | (go_at_call 8; with_reducible refine (cF _ b1).mono ?_; rintro e w' ⟨rfl, rfl⟩))
        go_ret
        exact ⟨rfl, b1⟩
    · have hxs' : 1024 < (x.size : Int) := by omega
      clear h hl hroom hreach hf
      go_enter Try.func5, Try.ntmps5
      go_wp2_with (first
        | (go_at_call 7; with_reducible refine (smallR_any _).mono ?_; rintro e w1 ⟨rfl, hb1⟩; have b1 := next bX hb1; have x1 := xX.kept hb1)
        | (go_at_call 8; with_reducible refine (cF _ b1).mono ?_; rintro e w' ⟨rfl, rfl⟩))
      go_ret
      exact ⟨rfl, b1⟩
  · rw [fewB_f hf] at cF
    clear h hl hroom hreach hf
    go_enter Try.func5, Try.ntmps5
    go_wp2_with (first
      | (go_at_call 7; with_reducible refine (smallR_any _).mono ?_; rintro e w1 ⟨rfl, hb1⟩; have b1 := next bX hb1; have x1 := xX.kept hb1)
      | (go_at_call 8; with_reducible refine (cF _ b1).mono ?_; rintro e w' ⟨rfl, rfl⟩))
    go_ret
    exact ⟨rfl, b1⟩
end Go.Proofs.Ytmefepjjlhphnaa
