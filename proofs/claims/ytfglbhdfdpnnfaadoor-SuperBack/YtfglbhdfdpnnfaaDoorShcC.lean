/- shape.areasOf by its contract. -/
import Derived.Test.YtfglbhdfdpnnfaaDoorShcB
namespace Go.Proofs.YtfglbhdfdpnnfaaDoor
set_option maxRecDepth 100000
open Go.RowKit
set_option linter.unusedVariables false
set_option linter.unusedSimpArgs false
set_option maxRecDepth 100000

theorem mayN_of {s : Shp} (h : ShR s) : MayN s := by
  have h6 := h.room
  obtain ⟨h1, ⟨h2, h3, h4⟩, ⟨h5, h7, h8⟩, h9, ha⟩ := h
  exact ⟨h1, ⟨h4, h2, h3⟩, ⟨h8, h5, h7⟩, h9, by omega⟩
theorem shR_of {s : Shp} (h : MayN s) (hl : lnN s ≤ 4096) : ShR s := by
  obtain ⟨h1, ⟨h2, h3, h4⟩, ⟨h5, h7, h8⟩, h9, ha⟩ := h
  exact ⟨h1, ⟨h3, h4, h2⟩, ⟨h7, h8, h5⟩, h9, hl⟩
theorem areasOf_any (s : Shp) (w : World) :
    Calls Tryd.prog 39 #[.agg #[.int .i64 s.pg, .int .i64 s.sl, .int .i64 s.rt, .int .i64 s.rm]] w fun e w' => e = .returned (.agg #[.int .i64 (ar0 s), .int .i64 (ar1 s), .int .i64 (ar2 s), .int .i64 (ar3 s), .int .i64 (ar4 s), .int .i64 (ar5 s), .int .i64 (ar6 s), .int .i64 (ar7 s), .int .i64 (ar8 s)]) ∧ Below w.heap.size w w' := by
  obtain ⟨pg, sl, rt, rm⟩ := s
  simp only
  have hb0 : Below w.heap.size w (w.alloc (.cells #[.int .i64 pg, .int .i64 sl, .int .i64 rt, .int .i64 rm] 23)) := (Below.refl _ _).alloc (Nat.le_refl _) _
  have hb1 := hb0.alloc (o := .cells #[.int .i64 0, .int .i64 0, .int .i64 0, .int .i64 0, .int .i64 0, .int .i64 0, .int .i64 0, .int .i64 0, .int .i64 0] 59) (by simp)
  have hS := (bxS4_new w ⟨pg, sl, rt, rm⟩).more (.cells #[.int .i64 0, .int .i64 0, .int .i64 0, .int .i64 0, .int .i64 0, .int .i64 0, .int .i64 0, .int .i64 0, .int .i64 0] 59)
  have hA := bxA_new (w.alloc (.cells #[.int .i64 pg, .int .i64 sl, .int .i64 rt, .int .i64 rm] 23)) Ars.z
  have cM := eachMayBe_any ⟨pg, sl, rt, rm⟩ ((w.alloc (.cells #[.int .i64 pg, .int .i64 sl, .int .i64 rt, .int .i64 rm] 23)).alloc (.cells #[.int .i64 0, .int .i64 0, .int .i64 0, .int .i64 0, .int .i64 0, .int .i64 0, .int .i64 0, .int .i64 0, .int .i64 0] 59))
  have HW : Hid (∀ w1, Below ((w.alloc (.cells #[.int .i64 pg, .int .i64 sl, .int .i64 rt, .int .i64 rm] 23)).alloc (.cells #[.int .i64 0, .int .i64 0, .int .i64 0, .int .i64 0, .int .i64 0, .int .i64 0, .int .i64 0, .int .i64 0, .int .i64 0] 59)).heap.size ((w.alloc (.cells #[.int .i64 pg, .int .i64 sl, .int .i64 rt, .int .i64 rm] 23)).alloc (.cells #[.int .i64 0, .int .i64 0, .int .i64 0, .int .i64 0, .int .i64 0, .int .i64 0, .int .i64 0, .int .i64 0, .int .i64 0] 59)) w1 → BxS4 w1 w.heap.size ⟨pg, sl, rt, rm⟩ ∧ BxA w1 (w.heap.size + 1) Ars.z ∧ Below w.heap.size w w1) := hid (fun w1 hb => by
    have e : (w.alloc (.cells #[.int .i64 pg, .int .i64 sl, .int .i64 rt, .int .i64 rm] 23)).heap.size = w.heap.size + 1 := by simp
    rw [e] at hA
    exact ⟨hS.kept hb, hA.kept hb, next hb1 hb⟩)
  clear hS hA hb0 hb1
  by_cases hM : MayN ⟨pg, sl, rt, rm⟩
  · rw [show mayNB ⟨pg, sl, rt, rm⟩ = true from decide_eq_true hM] at cM
    have cL : ∀ w1, _ := fun w1 => layS_any pg sl rt rm w1 hM.1 hM.2.1.2 hM.2.2.1.2 hM.2.2.2
    by_cases hL : lnN ⟨pg, sl, rt, rm⟩ ≤ 4096
    · obtain ⟨e0, e1, e2, e3, e4, e5, e6, e7, e8, e9⟩ := ar_t (shR_of hM hL)
      rw [e0, e1, e2, e3, e4, e5, e6, e7, e8]
      clear e0 e1 e2 e3 e4 e5 e6 e7 e8 e9 hM
      generalize lnN ⟨pg, sl, rt, rm⟩ = LN at *
      generalize hdN ⟨pg, sl, rt, rm⟩ = HD at *
      generalize tbN ⟨pg, sl, rt, rm⟩ = TB at *
      generalize rtN ⟨pg, sl, rt, rm⟩ = RT at *
      generalize trN ⟨pg, sl, rt, rm⟩ = TR at *
      generalize hpN ⟨pg, sl, rt, rm⟩ = HP at *
      have hL' : ¬ 4096 < LN := by omega
      go_enter Tryd.func39, Tryd.ntmps39
      go_wp2_with (first
        | (go_at_call 47; with_reducible refine cM.mono ?_; rintro e w1 ⟨rfl, hb1⟩; obtain ⟨hs1, ha1, hbw⟩ := HW.out w1 hb1; obtain ⟨q0, q1, q2, q3⟩ := hs1.cells)
        | (go_at_call 48; with_reducible refine (cL w1).mono ?_; rintro e w2 ⟨rfl, hb2⟩; have hlt := (ha1.kept hb2).lt; obtain ⟨s0, s1, s2, s3, s4, s5, s6, s7, s8⟩ := (ha1.kept hb2).cells; have f0 := (ha1.kept hb2).free 0; have f1 := (ha1.kept hb2).free 1; have f2 := (ha1.kept hb2).free 2; have f3 := (ha1.kept hb2).free 3; have f4 := (ha1.kept hb2).free 4; have f5 := (ha1.kept hb2).free 5; have f6 := (ha1.kept hb2).free 6; have f7 := (ha1.kept hb2).free 7; have f8 := (ha1.kept hb2).free 8; have hbw2 := next hbw hb2))
      refine bodyPost_ret (v := .agg #[.int .i64 1, .int .i64 2, .int .i64 rm, .int .i64 HD, .int .i64 TB, .int .i64 RT, .int .i64 TR, .int .i64 HP, .int .i64 LN]) (by simp [results, Tryd.results39, go_sem, hlt, s0, s1, s2, s3, s4, s5, s6, s7, s8]) rfl ⟨rfl, ?_⟩
      have hsz := hbw2.size
      refine Below.alloc ?_ (by simp; omega) _
      exact (((((((((hbw2.setCell (by simp) _).setCell (by simp) _).setCell (by simp) _).setCell (by simp) _).setCell (by simp) _).setCell (by simp) _).setCell (by simp) _).setCell (by simp) _).setCell (by simp) _)
    · obtain ⟨e0, e1, e2, e3, e4, e5, e6, e7, e8, e9⟩ := ar_f (s := ⟨pg, sl, rt, rm⟩) (fun h => hL h.2.2.2.2)
      rw [e0, e1, e2, e3, e4, e5, e6, e7, e8]
      clear e0 e1 e2 e3 e4 e5 e6 e7 e8 e9 hM
      generalize lnN ⟨pg, sl, rt, rm⟩ = LN at *
      generalize hdN ⟨pg, sl, rt, rm⟩ = HD at *
      generalize tbN ⟨pg, sl, rt, rm⟩ = TB at *
      generalize rtN ⟨pg, sl, rt, rm⟩ = RT at *
      generalize trN ⟨pg, sl, rt, rm⟩ = TR at *
      generalize hpN ⟨pg, sl, rt, rm⟩ = HP at *
      have hL' : 4096 < LN := by omega
      go_enter Tryd.func39, Tryd.ntmps39
      go_wp2_with (first
        | (go_at_call 47; with_reducible refine cM.mono ?_; rintro e w1 ⟨rfl, hb1⟩; obtain ⟨hs1, ha1, hbw⟩ := HW.out w1 hb1; obtain ⟨q0, q1, q2, q3⟩ := hs1.cells)
        | (go_at_call 48; with_reducible refine (cL w1).mono ?_; rintro e w2 ⟨rfl, hb2⟩; have hlt := (ha1.kept hb2).lt; obtain ⟨s0, s1, s2, s3, s4, s5, s6, s7, s8⟩ := (ha1.kept hb2).cells; have f0 := (ha1.kept hb2).free 0; have f1 := (ha1.kept hb2).free 1; have f2 := (ha1.kept hb2).free 2; have f3 := (ha1.kept hb2).free 3; have f4 := (ha1.kept hb2).free 4; have f5 := (ha1.kept hb2).free 5; have f6 := (ha1.kept hb2).free 6; have f7 := (ha1.kept hb2).free 7; have f8 := (ha1.kept hb2).free 8; have hbw2 := next hbw hb2))
      refine bodyPost_ret (v := .agg #[.int .i64 0, .int .i64 0, .int .i64 0, .int .i64 0, .int .i64 0, .int .i64 0, .int .i64 0, .int .i64 0, .int .i64 0]) (by simp [results, Tryd.results39, go_sem, hlt, s0, s1, s2, s3, s4, s5, s6, s7, s8]) rfl ⟨rfl, ?_⟩
      have hsz := hbw2.size
      refine Below.alloc ?_ (by simp; omega) _
      exact (((((((((hbw2.setCell (by simp) _).setCell (by simp) _).setCell (by simp) _).setCell (by simp) _).setCell (by simp) _).setCell (by simp) _).setCell (by simp) _).setCell (by simp) _).setCell (by simp) _)
  · obtain ⟨e0, e1, e2, e3, e4, e5, e6, e7, e8, e9⟩ := ar_f (fun h => hM (mayN_of h))
    rw [e0, e1, e2, e3, e4, e5, e6, e7, e8]
    clear e0 e1 e2 e3 e4 e5 e6 e7 e8 e9
    rw [show mayNB ⟨pg, sl, rt, rm⟩ = false from decide_eq_false hM] at cM
    clear hM
    go_enter Tryd.func39, Tryd.ntmps39
    go_wp2_with (first
      | (go_at_call 47; with_reducible refine cM.mono ?_; rintro e w1 ⟨rfl, hb1⟩; obtain ⟨hs1, ha1, hbw⟩ := HW.out w1 hb1; obtain ⟨s0, s1, s2, s3, s4, s5, s6, s7, s8⟩ := ha1.cells; have f0 := ha1.free 0; have f1 := ha1.free 1; have f2 := ha1.free 2; have f3 := ha1.free 3; have f4 := ha1.free 4; have f5 := ha1.free 5; have f6 := ha1.free 6; have f7 := ha1.free 7; have f8 := ha1.free 8))
    refine bodyPost_ret (v := .agg #[.int .i64 0, .int .i64 0, .int .i64 0, .int .i64 0, .int .i64 0, .int .i64 0, .int .i64 0, .int .i64 0, .int .i64 0]) (by simp [results, Tryd.results39, go_sem, s0, s1, s2, s3, s4, s5, s6, s7, s8]) rfl ⟨rfl, ?_⟩
    exact (((((((((hbw.setCell (by simp) _).setCell (by simp) _).setCell (by simp) _).setCell (by simp) _).setCell (by simp) _).setCell (by simp) _).setCell (by simp) _).setCell (by simp) _).setCell (by simp) _)
end Go.Proofs.YtfglbhdfdpnnfaaDoor
