/- StateNewsWalk: these texts, one behind another. -/
import Derived.Test.YtpbljjbhfhfmgaaGreatDoorMxStNw
import Derived.Test.YtpbljjbhfhfmgaaGreatDoorMxStR
import Derived.Test.YtpbljjbhfhfmgaaGreatDoorMxRefStN
import Derived.Deep.RegionWith
/- 'StateNews' walked: New is the document's; it is right, has no live slot, its copy is the same. -/
namespace Go.Proofs.YtpbljjbhfhfmgaaGreatDoor
set_option maxRecDepth 100000
open Go.RowKit
set_option linter.unusedVariables false
set_option linter.unusedSimpArgs false
set_option maxRecDepth 100000

set_option maxHeartbeats 4000000 in
theorem stateNews_walk (w : World) (T : Cws w) (s : Shp) (gs : ShG s) (m : Int) (gm : Rg m) :
    Calls Tryz.prog 4 #[.agg #[.int .i64 s.pg, .int .i64 s.sl, .int .i64 s.rt, .int .i64 s.rm], .int .i64 m] w fun e w' => e = .returned (.bool true) ∧ Below w.heap.size w w' := by
  have hb0 : Below w.heap.size w (w.alloc (.cells #[.int .i64 s.pg, .int .i64 s.sl, .int .i64 s.rt, .int .i64 s.rm] 23)) := (Below.refl _ _).alloc (Nat.le_refl _) _
  have hB := bxS4_new w s
  have cS := smallT_any _ (T.kept hb0)
  have HTK : Hid (∀ W, Below w.heap.size w W → Cws W) := hid (fun W hb => T.kept hb)
  have HB0 := hid hb0
  have HX := hid hB
  have CN := hid (fun w1 => newS_any s gs m gm w1)
  have CRN := hid (fun w1 => rnewS_any s gs m gm w1)
  clear T hb0 hB
  by_cases hok : NwOk s m
  · obtain ⟨n1, n2⟩ := ne_t hok
    rw [n1, n2] at CN CRN
    have HC1 := hid (fun (v : StV) (w1 : World) (T1 : Cws w1) (h1 : Sta w1 v (nwS s m)) => nw_calls hok T1 h1)
    have HC2 := hid (fun (v u : StV) (w1 : World) (h : Sta w1 v (nwS s m)) (g : Sta w1 u (nwS s m)) => nw_same hok h g)
    clear n1 n2 hok
    generalize nwS s m = x at *
    obtain ⟨pg, s1, r1, m1⟩ := s
    simp only [stC] at *
    go_enter Tryz.func4, Tryz.ntmps4
    go_wp2_with (first
      | (go_at_call 5; refine cS.mono ?_; rintro e w1 ⟨rfl, hb1⟩; have HB1 := hid (next HB0.out hb1); have HK1 := hid hb1; obtain ⟨q0, q1, q2, q3⟩ := (HX.out.kept hb1).cells; simp only at q0 q1 q2 q3; clear hb1)
      | (go_at_call 23; refine (CN.out _).mono ?_; rintro e w2 ⟨va, rfl, hsa, hb2⟩; have HSA := hid hsa; have HB2 := hid (next HB1.out hb2); have HK2 := hid (next HK1.out hb2); clear q0 q1 q2 q3; obtain ⟨q0, q1, q2, q3⟩ := (HX.out.kept HK2.out).cells; simp only at q0 q1 q2 q3; have hl2 := (HX.out.kept HK2.out).lt; have HA := hid (bxT_new w2 va x); have hbA : Below w2.heap.size w2 (w2.alloc (.cells (stC va x) 28)) := (Below.refl _ _).alloc (Nat.le_refl _) _; have HAB := hid hbA; clear hsa hb2 hbA)
      | (go_at_call 24; refine (CRN.out _).mono ?_; rintro e w3 ⟨vb, rfl, hsb, hb3⟩; have HSB := hid hsb; have HB3 := hid (next (next HB2.out HAB.out) hb3); have HA3 := hid (HA.out.kept hb3); have HSA3 := hid ((HSA.out.below HAB.out).below hb3); have hl3 := HA3.out.lt; obtain ⟨a0, a1, a2, a3, a4, a5, a6, a7, a8⟩ := HA3.out.cells; have hbB : Below w3.heap.size w3 (w3.alloc (.cells (stC vb x) 28)) := (Below.refl _ _).alloc (Nat.le_refl _) _; have HBB := hid hbB; clear hsb hb3 hbB)
      | (go_at_call 11; have cc := (HC2.out va vb _ (HSA3.out.below HBB.out) (HSB.out.below HBB.out)).2; try simp only [stC] at cc; refine cc.mono ?_; clear cc; rintro e w4 ⟨rfl, hb4⟩; have HB4 := hid (next (next HB3.out HBB.out) hb4); have HA4 := hid ((HA3.out.kept HBB.out).kept hb4); have HSA4 := hid ((HSA3.out.below HBB.out).below hb4); clear a0 a1 a2 a3 a4 a5 a6 a7 a8; obtain ⟨a0, a1, a2, a3, a4, a5, a6, a7, a8⟩ := HA4.out.cells; clear hb4))
    have hd4 : Below w4.heap.size w4 w4.drew := (Below.refl _ _).drew
    have HAd := hid (HA4.out.kept hd4)
    have HSd := hid (HSA4.out.below hd4)
    have HBd := hid (next HB4.out hd4)
    have cR := (HC1.out va _ (HTK.out _ HBd.out) HSd.out).1
    try simp only [stC] at cR
    clear a0 a1 a2 a3 a4 a5 a6 a7 a8 hd4
    obtain ⟨a0, a1, a2, a3, a4, a5, a6, a7, a8⟩ := HAd.out.cells
    go_region_with (first
      | (go_at_call 18; with_reducible refine cR.mono ?_; rintro e w6 ⟨rfl, hb6⟩; have HA6 := hid (HAd.out.kept hb6); have HS6 := hid (HSd.out.below hb6); have HB6 := hid (next HBd.out hb6); obtain ⟨b0, b1, b2, b3, b4, b5, b6, b7, b8⟩ := HA6.out.cells; have cL := (HC1.out va _ (HTK.out _ HB6.out) HS6.out).2.1; try simp only [stC] at cL; clear hb6)
      | (go_at_call 21; with_reducible refine cL.mono ?_; rintro e w7 ⟨rfl, hb7⟩; have HA7 := hid (HA6.out.kept hb7); have HS7 := hid (HS6.out.below hb7); have HB7 := hid (next HB6.out hb7); obtain ⟨d0, d1, d2, d3, d4, d5, d6, d7, d8⟩ := HA7.out.cells; have cC := (HC1.out va _ (HTK.out _ HB7.out) HS7.out).2.2; try simp only [stC] at cC; clear hb7)
      | (go_at_call 10; with_reducible refine cC.mono ?_; rintro e w8 ⟨vc, rfl, hsc, hb8⟩; have HA8 := hid (HA7.out.kept hb8); have HS8 := hid (HS7.out.below hb8); have HB8 := hid (next HB7.out hb8); obtain ⟨f0, f1, f2, f3, f4, f5, f6, f7, f8⟩ := HA8.out.cells; have cQ := (HC2.out va vc _ HS8.out hsc).1; try simp only [stC] at cQ; clear hb8 hsc)
      | (go_at_call 20; with_reducible refine cQ.mono ?_; rintro e w9 ⟨rfl, hb9⟩; have HB9 := next HB8.out hb9))
    all_goals
      go_wp2
      go_ret
      exact ⟨rfl, HB9⟩
  · obtain ⟨n1, n2⟩ := ne_f hok
    rw [n1, n2] at CN CRN
    have HC2 := hid (fun (v u : StV) (w1 : World) (h : Sta w1 v zSt) (g : Sta w1 u zSt) => rsameS_any v zSt u zSt w1 h g (by
      have e1 := h.s.len
      have e2 := h.r.len
      have e3 := h.d.len
      have k1 := g.s.len
      have k2 := g.r.len
      simp only [zSt, List.length_nil] at e1 e2 e3 k1 k2
      omega))
    rw [samS_self] at HC2
    clear n1 n2 hok HTK
    generalize zSt = x at *
    obtain ⟨pg, s1, r1, m1⟩ := s
    simp only [stC] at *
    go_enter Tryz.func4, Tryz.ntmps4
    go_wp2_with (first
      | (go_at_call 5; refine cS.mono ?_; rintro e w1 ⟨rfl, hb1⟩; have HB1 := hid (next HB0.out hb1); have HK1 := hid hb1; obtain ⟨q0, q1, q2, q3⟩ := (HX.out.kept hb1).cells; simp only at q0 q1 q2 q3; clear hb1)
      | (go_at_call 23; refine (CN.out _).mono ?_; rintro e w2 ⟨va, rfl, hsa, hb2⟩; have HSA := hid hsa; have HB2 := hid (next HB1.out hb2); have HK2 := hid (next HK1.out hb2); clear q0 q1 q2 q3; obtain ⟨q0, q1, q2, q3⟩ := (HX.out.kept HK2.out).cells; simp only at q0 q1 q2 q3; have hl2 := (HX.out.kept HK2.out).lt; have HA := hid (bxT_new w2 va x); have hbA : Below w2.heap.size w2 (w2.alloc (.cells (stC va x) 28)) := (Below.refl _ _).alloc (Nat.le_refl _) _; have HAB := hid hbA; clear hsa hb2 hbA)
      | (go_at_call 24; refine (CRN.out _).mono ?_; rintro e w3 ⟨vb, rfl, hsb, hb3⟩; have HSB := hid hsb; have HB3 := hid (next (next HB2.out HAB.out) hb3); have HA3 := hid (HA.out.kept hb3); have HSA3 := hid ((HSA.out.below HAB.out).below hb3); have hl3 := HA3.out.lt; obtain ⟨a0, a1, a2, a3, a4, a5, a6, a7, a8⟩ := HA3.out.cells; have hbB : Below w3.heap.size w3 (w3.alloc (.cells (stC vb x) 28)) := (Below.refl _ _).alloc (Nat.le_refl _) _; have HBB := hid hbB; clear hsb hb3 hbB)
      | (go_at_call 11; have cc := HC2.out va vb _ (HSA3.out.below HBB.out) (HSB.out.below HBB.out); try simp only [stC] at cc; refine cc.mono ?_; clear cc; rintro e w4 ⟨rfl, hb4⟩; have HB4 := hid (next (next HB3.out HBB.out) hb4); have HA4 := hid ((HA3.out.kept HBB.out).kept hb4); have HSA4 := hid ((HSA3.out.below HBB.out).below hb4); clear a0 a1 a2 a3 a4 a5 a6 a7 a8; obtain ⟨a0, a1, a2, a3, a4, a5, a6, a7, a8⟩ := HA4.out.cells; clear hb4))
    go_quiet (fail)
    go_wp2
    go_ret
    exact ⟨rfl, below_drewN HB4.out _⟩
end Go.Proofs.YtpbljjbhfhfmgaaGreatDoor
