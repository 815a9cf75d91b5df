/- StateCountsWalk: these texts, one behind another. -/
import Derived.Test.YtpbljjbhfhfmgaaDoorMxStK
import Derived.Test.YtpbljjbhfhfmgaaDoorMxStV
import Derived.Deep.RegionWith
/- 'StateCounts' walked: each live slot of a right state is one object, of one format, with its bytes. -/
namespace Go.Proofs.YtpbljjbhfhfmgaaDoor
set_option maxRecDepth 100000
open Go.RowKit
set_option linter.unusedVariables false
set_option linter.unusedSimpArgs false
set_option maxRecDepth 100000

set_option maxHeartbeats 4000000 in
theorem stateCounts_walk (w : World) (T : Cws w) (v : StV) (x : Stt) (h : Sta w v x) (hs : v.sc ≤ 9223372036854775807) (hr : v.rc ≤ 9223372036854775807) (ht : v.tc ≤ 9223372036854775807) :
    Calls Tryd.prog 4 #[.agg (stC v x)] w fun e w' => e = .returned (.bool true) ∧ Below w.heap.size w w' := by
  have hb0 := st_box w v x
  have hB := bxT_new w v x
  have h1 := h.s.room
  have h2 := h.r.room
  have h3 := h.d.room
  have cS := smallT_any _ (T.kept hb0)
  have CF : Hid (∀ w1, Below w.heap.size w w1 → _) := hid (fun w1 hb => few_any v x w1 (h.below hb) (by omega) (by omega) (by omega))
  have CR : Hid (Fw v x → ∀ w1, Below w.heap.size w w1 → _) := hid (fun hf w1 hb => rightSt_any v x w1 (T.kept hb) (h.below hb) (by have := hf.s; omega) (by have := hf.r; omega))
  have CO : Hid (v.sn ≤ 60 → ∀ w1, Below w.heap.size w w1 → _) := hid (fun hf w1 hb => ones_any v x w1 (h.below hb) (by omega))
  have CT : Hid (v.sn ≤ 60 → ∀ w1, Below w.heap.size w w1 → _) := hid (fun hf w1 hb => twos_any v x w1 (h.below hb) (by omega))
  have CL : Hid (v.sn ≤ 60 → ∀ w1, Below w.heap.size w w1 → _) := hid (fun hf w1 hb => live_any v x w1 (h.below hb) (by omega))
  have CM : Hid (v.sn ≤ 60 → ∀ w1, Below w.heap.size w w1 → _) := hid (fun hf w1 hb => rlive_any v x w1 (h.below hb) (by omega))
  have HB0 := hid hb0
  have HX := hid hB
  have HST := hid (h.s)
  have hsl := h.s.len
  clear h T hb0 hB h1 h2 h3
  cases hfw : fwB v x with
  | false => as_aux_lemma =>
    rw [hfw] at CF
    clear CR HST hsl hfw CO CT CL CM
    obtain ⟨shp, md, bs, sl, rt, dt⟩ := x
    obtain ⟨so, sn, sc, ro, rn, rc, to, tn, tc, A, N, C⟩ := v
    simp only [stC] at *
    go_enter Tryd.func4, Tryd.ntmps4
    go_wp2_with (first
      | (go_at_call 5; refine cS.mono ?_; rintro e w1 ⟨rfl, hb1⟩; have HB1 := hid (next HB0.out hb1); obtain ⟨c0, c1, c2, c3, c4, c5, c6, c7, c8⟩ := (HX.out.kept hb1).cells; simp only at c0 c1 c2 c3 c4 c5 c6 c7 c8)
      | (go_at_call 6; refine (CF.out _ HB1.out).mono ?_; rintro e w2 ⟨rfl, hb2⟩; have HB2 := hid (next HB1.out hb2)))
    go_ret
    exact ⟨rfl, HB2.out⟩
  | true =>
    have hfew : Fw v x := of_decide_eq_true hfw
    have CR2 := hid (CR.out hfew)
    have hsn60 := hfew.s
    rw [hfw] at CF
    clear CR hfw hfew
    cases hst : stB x with
    | false => as_aux_lemma =>
      rw [hst] at CR2
      clear HST hsl hst CO CT CL CM
      obtain ⟨shp, md, bs, sl, rt, dt⟩ := x
      obtain ⟨so, sn, sc, ro, rn, rc, to, tn, tc, A, N, C⟩ := v
      simp only [stC] at *
      go_enter Tryd.func4, Tryd.ntmps4
      go_wp2_with (first
        | (go_at_call 5; refine cS.mono ?_; rintro e w1 ⟨rfl, hb1⟩; have HB1 := hid (next HB0.out hb1); have HK1 := hid hb1; obtain ⟨c0, c1, c2, c3, c4, c5, c6, c7, c8⟩ := (HX.out.kept hb1).cells; simp only at c0 c1 c2 c3 c4 c5 c6 c7 c8; clear hb1)
        | (go_at_call 6; refine (CF.out _ HB1.out).mono ?_; rintro e w2 ⟨rfl, hb2⟩; have HB2 := hid (next HB1.out hb2); clear c0 c1 c2 c3 c4 c5 c6 c7 c8; obtain ⟨c0, c1, c2, c3, c4, c5, c6, c7, c8⟩ := (HX.out.kept (next HK1.out hb2)).cells; simp only at c0 c1 c2 c3 c4 c5 c6 c7 c8; clear hb2)
        | (go_at_call 7; refine (CR2.out _ HB2.out).mono ?_; rintro e w3 ⟨rfl, hb3⟩; have HB3 := hid (next HB2.out hb3); clear hb3))
      go_ret
      exact ⟨rfl, HB3.out⟩
    | true =>
      have hright : SttR x := of_decide_eq_true hst
      rw [hst] at CR2
      have CO2 := hid (CO.out hsn60)
      have CT2 := hid (CT.out hsn60)
      have CL2 := hid (CL.out hsn60)
      have CM2 := hid (CM.out hsn60)
      have HON : Hid (∀ i, i < (onL x.sl).length → ∃ j : Nat, j < v.sn ∧ ba (onL x.sl) i = ⟨(sg x.sl j).pos, ndN (sg x.sl j).len, (j : Int)⟩ ∧ (sg x.sl j).two = false ∧ ndE (sg x.sl j).len = 0) := hid (fun i hi => by
        have hm : ba (onL x.sl) i ∈ onL x.sl := by simp only [ba, List.getD, List.getElem?_eq_getElem hi]; exact List.getElem_mem hi
        obtain ⟨j, hj, hone, he⟩ := mem_onN.1 hm
        have hlt : j < x.sl.length := hj
        have hlv : (sg x.sl j).live = true := by unfold isOne at hone; simp at hone; exact hone.1
        have htw : (sg x.sl j).two = false := by unfold isOne at hone; simp at hone; exact hone.2
        have := (hright.may hlt hlv).1
        exact ⟨j, by omega, he, htw, (nd_t ⟨this.1, this.2⟩).2⟩)
      have HLY : Hid (∀ i, i + 1 < (onL x.sl).length → (ba (onL x.sl) i).pos + (ba (onL x.sl) i).sz ≤ (ba (onL x.sl) (i + 1)).pos ∧ 0 ≤ (ba (onL x.sl) i).pos ∧ (ba (onL x.sl) i).pos + (ba (onL x.sl) i).sz ≤ 2048 ∧ 0 ≤ (ba (onL x.sl) i).sz) := hid (fun i hi => by
        have h1 := lay_order hright.ones.2 (i := i) (j := i + 1) (by omega) (by rw [spL_length]; exact hi)
        have h2 := lay_fit hright.ones.2 (i := i) (by rw [spL_length]; omega)
        have he := hright.ones.1
        rw [pa_spL, pa_spL] at h1
        rw [pa_spL] at h2
        unfold EndP at he
        unfold FitP at h2
        simp only [Blk.spn, Spn.fin] at h1 h2
        omega)
      have HTW : Hid (∀ i, i < (twL x.sl).length → ∃ j : Nat, j < v.sn ∧ (twX x.sl).getD i 0 = (j : Int) ∧ (sg x.sl j).two = true ∧ pa (twL x.sl) i = ⟨(sg x.sl j).pos, (sg x.sl j).len⟩) := hid (fun i hi => by
        obtain ⟨j, hj, e1, e2, e3⟩ := twI_at (l := x.sl) (k := x.sl.length) hi
        exact ⟨j, by omega, e1, by unfold isTwo at e2; simp at e2; exact e2.2, e3⟩)
      have HTR : Hid (∀ i, i + 1 < (twL x.sl).length → (twX x.sl).getD i 0 < (twX x.sl).getD (i + 1) 0) := hid (fun i hi => twI_rise hi)
      have HSUM : Hid ((onL x.sl).length + (twL x.sl).length = liL x.sl) := hid (on_tw x.sl x.sl.length)
      have hlile := liN_le x.sl x.sl.length
      have hli60 : liL x.sl ≤ 60 := by unfold liL; omega
      clear hst hright hlile CO CT CL CM
      obtain ⟨shp, md, bs, sl, rt, dt⟩ := x
      obtain ⟨so, sn, sc, ro, rn, rc, to, tn, tc, A, N, C⟩ := v
      simp only [stC] at *
      generalize hLL : onL sl = L at *
      generalize hJJ : twL sl = J at *
      generalize hXX : twX sl = X at *
      generalize hli : liL sl = li at *
      clear hLL hJJ hXX hli
      go_enter Tryd.func4, Tryd.ntmps4
      go_wp2_with (first
        | (go_at_call 5; refine cS.mono ?_; rintro e w1 ⟨rfl, hb1⟩; have HB1 := hid (next HB0.out hb1); have HK1 := hid hb1; obtain ⟨c0, c1, c2, c3, c4, c5, c6, c7, c8⟩ := (HX.out.kept hb1).cells; simp only at c0 c1 c2 c3 c4 c5 c6 c7 c8; clear hb1)
        | (go_at_call 6; refine (CF.out _ HB1.out).mono ?_; rintro e w2 ⟨rfl, hb2⟩; have HB2 := hid (next HB1.out hb2); have HK2 := hid (next HK1.out hb2); clear c0 c1 c2 c3 c4 c5 c6 c7 c8; obtain ⟨c0, c1, c2, c3, c4, c5, c6, c7, c8⟩ := (HX.out.kept HK2.out).cells; simp only at c0 c1 c2 c3 c4 c5 c6 c7 c8; clear hb2)
        | (go_at_call 7; refine (CR2.out _ HB2.out).mono ?_; rintro e w3 ⟨rfl, hb3⟩; have HB3 := hid (next HB2.out hb3); have HK3 := hid (next HK2.out hb3); clear c0 c1 c2 c3 c4 c5 c6 c7 c8; obtain ⟨c0, c1, c2, c3, c4, c5, c6, c7, c8⟩ := (HX.out.kept HK3.out).cells; simp only at c0 c1 c2 c3 c4 c5 c6 c7 c8; clear hb3)
        | (go_at_call 8; refine (CO2.out _ HB3.out).mono ?_; rintro e w4 ⟨oo, M, oc, rfl, ho4, hm4, hb4⟩; have HL4 := hid ho4.bs; have HML : Hid (L.length = M) := hid ho4.len; have HB4 := hid (next HB3.out hb4); have HK4 := hid (next HK3.out hb4); clear c0 c1 c2 c3 c4 c5 c6 c7 c8; obtain ⟨c0, c1, c2, c3, c4, c5, c6, c7, c8⟩ := (HX.out.kept HK4.out).cells; simp only at c0 c1 c2 c3 c4 c5 c6 c7 c8; clear ho4 hb4)
        | (go_at_call 9; refine (CT2.out _ HB4.out).mono ?_; rintro e w5 ⟨jo, jn, jc, fo, fc, rfl, hj5, hf5, hn5, hb5⟩; have HJ5 := hid hj5.ps; have HF5 := hid hf5.sl; have HJL : Hid (J.length = jn) := hid hj5.len; have HL5 := hid (HL4.out.below hb5); have HB5 := hid (next HB4.out hb5); have HK5 := hid (next HK4.out hb5); have hsum : ((M : Int) + (jn : Int) != (li : Int)) = false := (by have e1 := HSUM.out; rw [HML.out, HJL.out] at e1; rw [bne_eq_false_iff_eq]; omega); have hwsum : IntKind.i64.wrap ((M : Int) + (jn : Int)) = (M : Int) + (jn : Int) := IntWalk.i64_in _ ⟨by omega, by omega⟩; clear c0 c1 c2 c3 c4 c5 c6 c7 c8; obtain ⟨c0, c1, c2, c3, c4, c5, c6, c7, c8⟩ := (HX.out.kept HK5.out).cells; simp only at c0 c1 c2 c3 c4 c5 c6 c7 c8; clear hj5 hf5 hb5)
        | (go_at_call 10; refine (CL2.out _ HB5.out).mono ?_; rintro e w6 ⟨rfl, hb6⟩; have HB6 := hid (next HB5.out hb6); have HK6 := hid (next HK5.out hb6); have HL6 := hid (HL5.out.below hb6); have HJ6 := hid (HJ5.out.below hb6); have HF6 := hid (HF5.out.below hb6); clear hb6))
      have HT6 := hid (HST.out.below HB6.out)
      clear c0 c1 c2 c3 c4 c5 c6 c7 c8 hsum hwsum
      go_loopw [8] (fun s8 wr => ∃ k : Nat, k ≤ M ∧ s8 = .int .i64 k ∧ Hid (Below w6.heap.size w6 wr)) (fun s8 _ => M - (intOf s8).toNat)
      case atStart => exact ⟨0, Nat.zero_le _, rfl, hid (Below.refl _ _)⟩
      case round =>
        obtain ⟨k, hk, rfl, HB⟩ := hrel
        have c6 := (HX.out.kept (next HK6.out HB.out)).cells.c6
        simp only at c6
        by_cases hlt : k < M
        · obtain ⟨j, hj, hbe, htw, hne⟩ := HON.out k (by rw [HML.out]; exact hlt)
          obtain ⟨bb, bf, rfl, -, -⟩ := (HL6.out.below HB.out).here (by omega)
          obtain ⟨d0, d1, d2⟩ := HL6.out.at HB.out hlt
          obtain ⟨b, off, rfl, -, -⟩ := HT6.out.here (by omega)
          obtain ⟨-, -, c2, c3, c4⟩ := HT6.out.at HB.out hj
          have cN := need_any (sg sl j).len wr
          rw [hne] at cN
          rw [htw] at c2
          have hkM : (k : Int) < (M : Int) := by omega
          have hj0 : ¬ ((j : Int) < 0) := by omega
          have hj1 : (0 : Int) ≤ (j : Int) := by omega
          have hjn : (j : Int) < (sn : Int) := by omega
          have hjn2 : ¬ ((sn : Int) ≤ (j : Int)) := by omega
          rcases Nat.eq_zero_or_pos k with hk0 | hk0
          · as_aux_lemma =>
            have hkz : ¬ (0 < (k : Int)) := by omega
            have hkzd : decide (0 < (k : Int)) = false := decide_eq_false hkz
            have hkz' : ¬ (0 < k) := by omega
            have hkzd' : decide (0 < k) = false := decide_eq_false hkz'
            rw [hbe] at d0 d1 d2
            simp only at d0 d1 d2
            clear HON HLY HTW HTR hbe htw hne HL6 HJ6 HF6 HT6 HST CL2 CM2 HX hk0
            generalize sg sl j = sl0 at *
            obtain ⟨g0, lv, tw, p, ln⟩ := sl0
            simp only at c2 c3 c4 d0 d1 d2 cN
            generalize ndN ln = z at *
            go_wp2_with (first
              | (go_at_call 11; with_reducible refine cN.mono ?_; rintro e w9 ⟨rfl, rfl⟩))
            go_quiet (fail)
            go_wp2
            go_roundw
            case rel => exact ⟨k + 1, by omega, by go_num, hid (below_drewN HB.out _)⟩
            case measure => simp [intOf]; omega
          · as_aux_lemma =>
            obtain ⟨k1, hk1⟩ : ∃ k1, k1 + 1 = k := ⟨k - 1, by omega⟩
            have hly := HLY.out k1 (by rw [HML.out]; omega)
            obtain ⟨e0, e1, -⟩ := HL6.out.at HB.out (i := k1) (by omega)
            rw [hk1, hbe] at hly
            rw [hbe] at d0 d1 d2
            simp only at d0 d1 d2 hly
            have z1 : IntKind.i64.wrap ((k : Int) - 1) = (k1 : Int) := by rw [IntWalk.i64_in _ ⟨by omega, by omega⟩]; omega
            have hk1M : (k1 : Int) < (M : Int) := by omega
            have hkz : 0 < (k : Int) := by omega
            have hkzd : decide (0 < (k : Int)) = true := decide_eq_true hkz
            have hkz' : 0 < k := hk0
            have hkzd' : decide (0 < k) = true := decide_eq_true hkz'
            clear HON HLY HTW HTR hbe htw hne HL6 HJ6 HF6 HT6 HST CL2 CM2 HX hk1 hk0
            generalize ba L k1 = blk0 at *
            obtain ⟨q, y, ix⟩ := blk0
            generalize sg sl j = sl0 at *
            obtain ⟨g0, lv, tw, p, ln⟩ := sl0
            simp only at c2 c3 c4 d0 d1 d2 e0 e1 cN hly
            obtain ⟨hqp, hq0, hq1, hq2⟩ := hly
            have zq : IntKind.i64.wrap (q + y) = q + y := IntWalk.i64_in _ ⟨by omega, by omega⟩
            have hqd : decide (p < q + y) = false := decide_eq_false (by omega)
            have hqn : ¬ (p < q + y) := by omega
            generalize ndN ln = z at *
            go_wp2_with (first
              | (go_at_call 11; with_reducible refine cN.mono ?_; rintro e w9 ⟨rfl, rfl⟩))
            go_quiet (fail)
            go_wp2
            go_roundw
            case rel => exact ⟨k + 1, by omega, by go_num, hid (below_drewN HB.out _)⟩
            case measure => simp [intOf]; omega
        · obtain rfl : k = M := by omega
          have hki : ¬ ((k : Int) < (k : Int)) := by omega
          clear HON HLY
          go_wp2
          clear c6 hki
          go_loopw [12] (fun s12 wq => ∃ i : Nat, i ≤ jn ∧ s12 = .int .i64 i ∧ Hid (Below w6.heap.size w6 wq)) (fun s12 _ => jn - (intOf s12).toNat)
          case atStart => exact ⟨0, Nat.zero_le _, rfl, HB⟩
          case round =>
            obtain ⟨i, hi, rfl, HW⟩ := hrel
            have c6 := (HX.out.kept (next HK6.out HW.out)).cells.c6
            simp only at c6
            by_cases hlt : i < jn
            · obtain ⟨j, hj, hX, htw, hpe⟩ := HTW.out i (by rw [HJL.out]; exact hlt)
              obtain ⟨pb, pf, rfl, -, -⟩ := (HJ6.out.below HW.out).here (by omega)
              obtain ⟨d0, d1⟩ := HJ6.out.at HW.out hlt
              obtain ⟨fb, fof, rfl, -, hfc⟩ := (HF6.out.below HW.out).here (by omega)
              have f0 := hfc i hlt
              rw [hX] at f0
              obtain ⟨b, off, rfl, -, -⟩ := HT6.out.here (by omega)
              obtain ⟨-, -, c2, c3, c4⟩ := HT6.out.at HW.out hj
              rw [htw] at c2
              rw [hpe] at d0 d1
              simp only at d0 d1
              have hiM : (i : Int) < (jn : Int) := by omega
              have hj0 : ¬ ((j : Int) < 0) := by omega
              have hj0d : decide ((j : Int) < 0) = false := decide_eq_false hj0
              have hj1 : (0 : Int) ≤ (j : Int) := by omega
              have hjn : (j : Int) < (sn : Int) := by omega
              have hjn2 : ¬ ((sn : Int) ≤ (j : Int)) := by omega
              have hjn2d : decide ((sn : Int) ≤ (j : Int)) = false := decide_eq_false hjn2
              have hjn3 : ¬ (sn ≤ j) := by omega
              have hjn3d : decide (sn ≤ j) = false := decide_eq_false hjn3
              rcases Nat.eq_zero_or_pos i with hk0 | hk0
              · as_aux_lemma =>
                have hkz : ¬ (0 < (i : Int)) := by omega
                have hkzd : decide (0 < (i : Int)) = false := decide_eq_false hkz
                have hkz' : ¬ (0 < i) := by omega
                have hkzd' : decide (0 < i) = false := decide_eq_false hkz'
                clear HTW HTR hpe htw hX HL6 HJ6 HF6 HT6 HST CL2 CM2 HX hfc hk0
                generalize sg sl j = sl0 at *
                obtain ⟨g0, lv, tw, p, ln⟩ := sl0
                simp only at c2 c3 c4 d0 d1
                go_wp2
                go_quiet (fail)
                go_wp2
                go_roundw
                case rel => exact ⟨i + 1, by omega, by go_num, hid (below_drewN HW.out _)⟩
                case measure => simp [intOf]; omega
              · as_aux_lemma =>
                obtain ⟨k1, hk1⟩ : ∃ k1, k1 + 1 = i := ⟨i - 1, by omega⟩
                have hly := HTR.out k1 (by rw [HJL.out]; omega)
                have f1 := hfc k1 (by omega)
                rw [hk1, hX] at hly
                have z1 : IntKind.i64.wrap ((i : Int) - 1) = (k1 : Int) := by rw [IntWalk.i64_in _ ⟨by omega, by omega⟩]; omega
                have hk1M : (k1 : Int) < (jn : Int) := by omega
                have hkz : 0 < (i : Int) := by omega
                have hkzd : decide (0 < (i : Int)) = true := decide_eq_true hkz
                have hkz' : 0 < i := hk0
                have hkzd' : decide (0 < i) = true := decide_eq_true hkz'
                generalize X.getD k1 0 = Y at *
                have hqn : ¬ ((j : Int) ≤ Y) := by omega
                have hqd : decide ((j : Int) ≤ Y) = false := decide_eq_false hqn
                clear HTW HTR hpe htw hX HL6 HJ6 HF6 HT6 HST CL2 CM2 HX hfc hk1 hk0
                generalize sg sl j = sl0 at *
                obtain ⟨g0, lv, tw, p, ln⟩ := sl0
                simp only at c2 c3 c4 d0 d1
                go_wp2
                go_quiet (fail)
                go_wp2
                go_roundw
                case rel => exact ⟨i + 1, by omega, by go_num, hid (below_drewN HW.out _)⟩
                case measure => simp [intOf]; omega
            · obtain rfl : i = jn := by omega
              have hki : ¬ ((i : Int) < (i : Int)) := by omega
              clear HTW HTR HL6 HJ6 HF6 HT6 HST
              have hbd := (next HB6.out HW.out).drew
              have HKD := hid ((next HK6.out HW.out).drew)
              obtain ⟨c0, c1, c2, c3, c4, c5, c6, c7, c8⟩ := (HX.out.kept HKD.out).cells
              simp only at c0 c1 c2 c3 c4 c5 c6 c7 c8
              go_wp2
              go_region_with (first
                | (go_at_call 12; first
                  | (with_reducible refine (CM2.out _ hbd).mono ?_; rintro e wa ⟨rfl, hba⟩; have hbR := next hbd hba; have HKR := hid (next HKD.out hba); obtain ⟨r0, r1, r2, r3, r4, r5, r6, r7, r8⟩ := (HX.out.kept HKR.out).cells; simp only at r0 r1 r2 r3 r4 r5 r6 r7 r8; clear hba)
                  | (with_reducible refine (CM2.out _ hbL).mono ?_; rintro e wb ⟨rfl, hbb⟩; have hbZ := next hbL hbb))
                | (go_at_call 10; first
                  | (with_reducible refine (CL2.out _ hbd).mono ?_; rintro e wa ⟨rfl, hba⟩; have hbL := next hbd hba; have HKL := hid (next HKD.out hba); obtain ⟨r0, r1, r2, r3, r4, r5, r6, r7, r8⟩ := (HX.out.kept HKL.out).cells; simp only at r0 r1 r2 r3 r4 r5 r6 r7 r8; clear hba)
                  | (with_reducible refine (CL2.out _ hbR).mono ?_; rintro e wb ⟨rfl, hbb⟩; have hbZ := next hbR hbb)))
              all_goals
                go_wp2
                go_ret
                exact ⟨rfl, hbZ⟩
end Go.Proofs.YtpbljjbhfhfmgaaDoor
