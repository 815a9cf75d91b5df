/- StateApartWalk: these texts, one behind another. -/
import Derived.Test.YtpbljjbhfhfmgaaDoorMxStK
/- 'StateApart' walked: of a right state no word is two objects'. -/
namespace Go.Proofs.YtpbljjbhfhfmgaaDoor
set_option maxRecDepth 100000
open Go.RowKit
set_option linter.unusedVariables false
set_option linter.unusedSimpArgs false
set_option maxRecDepth 100000

set_option maxHeartbeats 4000000 in
theorem stateApart_walk (w : World) (T : Cws w) (v : StV) (x : Stt) (h : Sta w v x) (hs : v.sc ≤ 9223372036854775807) (hr : v.rc ≤ 9223372036854775807) (ht : v.tc ≤ 9223372036854775807) :
    Calls Tryd.prog 3 #[.agg (stC v x)] w fun e w' => e = .returned (.bool true) ∧ Below w.heap.size w w' := by
  have hb0 := st_box w v x
  have hB := bxT_new w v x
  have h1 := h.s.room
  have h2 := h.r.room
  have h3 := h.d.room
  have cS := smallT_any _ (T.kept hb0)
  have CF : Hid (∀ w1, Below w.heap.size w w1 → _) := hid (fun w1 hb => few_any v x w1 (h.below hb) (by omega) (by omega) (by omega))
  have CR : Hid (Fw v x → ∀ w1, Below w.heap.size w w1 → _) := hid (fun hf w1 hb => rightSt_any v x w1 (T.kept hb) (h.below hb) (by have := hf.s; omega) (by have := hf.r; omega))
  have HB0 := hid hb0
  have HX := hid hB
  have HST := hid (h.s)
  have hsl := h.s.len
  clear h T hb0 hB h1 h2 h3
  cases hfw : fwB v x with
  | false =>
    rw [hfw] at CF
    clear CR HST hsl hfw
    obtain ⟨shp, md, bs, sl, rt, dt⟩ := x
    obtain ⟨so, sn, sc, ro, rn, rc, to, tn, tc, A, N, C⟩ := v
    simp only [stC] at *
    go_enter Tryd.func3, Tryd.ntmps3
    go_wp2_with (first
      | (go_at_call 5; refine cS.mono ?_; rintro e w1 ⟨rfl, hb1⟩; have HB1 := hid (next HB0.out hb1); obtain ⟨c0, c1, c2, c3, c4, c5, c6, c7, c8⟩ := (HX.out.kept hb1).cells; simp only at c0 c1 c2 c3 c4 c5 c6 c7 c8)
      | (go_at_call 6; refine (CF.out _ HB1.out).mono ?_; rintro e w2 ⟨rfl, hb2⟩; have HB2 := hid (next HB1.out hb2)))
    go_ret
    exact ⟨rfl, HB2.out⟩
  | true =>
    have hfew : Fw v x := of_decide_eq_true hfw
    have CR2 := hid (CR.out hfew)
    have hsn60 := hfew.s
    rw [hfw] at CF
    clear CR hfw hfew
    cases hst : stB x with
    | false =>
      rw [hst] at CR2
      clear HST hsl hst
      obtain ⟨shp, md, bs, sl, rt, dt⟩ := x
      obtain ⟨so, sn, sc, ro, rn, rc, to, tn, tc, A, N, C⟩ := v
      simp only [stC] at *
      go_enter Tryd.func3, Tryd.ntmps3
      go_wp2_with (first
        | (go_at_call 5; refine cS.mono ?_; rintro e w1 ⟨rfl, hb1⟩; have HB1 := hid (next HB0.out hb1); have HK1 := hid hb1; obtain ⟨c0, c1, c2, c3, c4, c5, c6, c7, c8⟩ := (HX.out.kept hb1).cells; simp only at c0 c1 c2 c3 c4 c5 c6 c7 c8; clear hb1)
        | (go_at_call 6; refine (CF.out _ HB1.out).mono ?_; rintro e w2 ⟨rfl, hb2⟩; have HB2 := hid (next HB1.out hb2); clear c0 c1 c2 c3 c4 c5 c6 c7 c8; obtain ⟨c0, c1, c2, c3, c4, c5, c6, c7, c8⟩ := (HX.out.kept (next HK1.out hb2)).cells; simp only at c0 c1 c2 c3 c4 c5 c6 c7 c8; clear hb2)
        | (go_at_call 7; refine (CR2.out _ HB2.out).mono ?_; rintro e w3 ⟨rfl, hb3⟩; have HB3 := hid (next HB2.out hb3); clear hb3))
      go_ret
      exact ⟨rfl, HB3.out⟩
    | true =>
      have hright : SttR x := of_decide_eq_true hst
      rw [hst] at CR2
      have HIN : Hid (∀ i, i < v.sn → (sg x.sl i).live = true → ∀ k : Int, InW (sg x.sl i) k → 0 ≤ k ∧ k < 2048 ∧ k < 32 * x.shp.pg ∧ (sg x.sl i).two = decide (k < 32 * x.bs)) := hid (fun i hi hl k hk => st_in hright (by omega) hl hk)
      have HZ0 : Hid (∀ i, i < v.sn → (sg x.sl i).live = true → ∀ k : Nat, InW (sg x.sl i) k → owF x.sl i k = 0) := hid (fun i hi hl k hk => ow_zero hright (by omega) hl hk)
      have HMY : Hid (∀ i, i < v.sn → (sg x.sl i).live = true → (1 ≤ (sg x.sl i).len ∧ (sg x.sl i).len ≤ 2048) ∧ 0 ≤ (sg x.sl i).pos ∧ (sg x.sl i).pos ≤ 2048) := hid (fun i hi hl => hright.may (by omega) hl)
      have hnum := hright.head.nums
      clear hst hright
      obtain ⟨shp, md, bs, sl, rt, dt⟩ := x
      obtain ⟨so, sn, sc, ro, rn, rc, to, tn, tc, A, N, C⟩ := v
      obtain ⟨pg, s1, r1, m1⟩ := shp
      simp only [stC] at *
      obtain ⟨⟨n1, n2⟩, _, _, _, _, n3, n4⟩ := hnum
      have wq1 : IntKind.i64.wrap (32 * bs) = 32 * bs := IntWalk.i64_in _ ⟨by omega, by omega⟩
      have wq2 : IntKind.i64.wrap (32 * pg) = 32 * pg := IntWalk.i64_in _ ⟨by omega, by omega⟩
      obtain ⟨zs, hz, hzs, hzn, hzc⟩ := zero_valO
      have HZC := hid hzc
      clear hzc
      go_enter Tryd.func3, Tryd.ntmps3
      go_wp2_with (first
        | (go_at_call 5; refine cS.mono ?_; rintro e w1 ⟨rfl, hb1⟩; have HB1 := hid (next HB0.out hb1); have HK1 := hid hb1; obtain ⟨c0, c1, c2, c3, c4, c5, c6, c7, c8⟩ := (HX.out.kept hb1).cells; simp only at c0 c1 c2 c3 c4 c5 c6 c7 c8; clear hb1)
        | (go_at_call 6; refine (CF.out _ HB1.out).mono ?_; rintro e w2 ⟨rfl, hb2⟩; have HB2 := hid (next HB1.out hb2); have HK2 := hid (next HK1.out hb2); clear c0 c1 c2 c3 c4 c5 c6 c7 c8; obtain ⟨c0, c1, c2, c3, c4, c5, c6, c7, c8⟩ := (HX.out.kept HK2.out).cells; simp only at c0 c1 c2 c3 c4 c5 c6 c7 c8; clear hb2)
        | (go_at_call 7; refine (CR2.out _ HB2.out).mono ?_; rintro e w3 ⟨rfl, hb3⟩; have HB3 := hid (next HB2.out hb3); have HK3 := hid (next HK2.out hb3); clear hb3))
      have HC3 := hid (HZC.out w3)
      have hgw : w.heap.size < w3.heap.size := (HX.out.kept HK3.out).lt
      have HB4 := hid (HB3.out.alloc HB3.out.size (.cells zs 31))
      have HX4 := hid ((HX.out.kept HK3.out).more (.cells zs 31))
      have hw4 : (w3.alloc (.cells zs 31)).heap.size = w3.heap.size + 1 := by simp
      have HW4 := hid hw4
      clear hw4 hz hzs hzn HZC c0 c1 c2 c3 c4 c5 c6 c7 c8 cS CF CR2 HX HK1 HK2 HK3 HB1 HB2
      generalize w3.alloc (.cells zs 31) = w4 at *
      generalize hg : w3.heap.size = g at *
      have HBw : Hid (∀ wr, Off (fun j => j = g) w4 wr → Below w.heap.size w wr) := hid (fun wr ho => HB4.out.trans (ho.below (fun j hj => by omega) HB4.out.size))
      have HXw : Hid (∀ wr, Off (fun j => j = g) w4 wr → wr.cell? ⟨w.heap.size, 0, none⟩ = some (.int .i64 pg) ∧ wr.cell? ⟨w.heap.size, 5, none⟩ = some (.int .i64 bs) ∧ wr.cell? ⟨w.heap.size, 6, none⟩ = some (.slice so sn sc)) := hid (fun wr ho => by
        have hx := (HX4.out.off ho (by omega)).cells
        exact ⟨hx.c0, hx.c5, hx.c6⟩)
      have HGN := hid hg
      clear hg
      go_loopw [6] (fun s6 wr => ∃ i : Nat, i ≤ sn ∧ s6 = .int .i64 i ∧ Hid (CntO wr g (owF sl i)) ∧ Hid (Off (fun j => j = g) w4 wr)) (fun s6 _ => sn - (intOf s6).toNat)
      case atStart => exact ⟨0, Nat.zero_le _, by go_num, hid HC3.out, hid (Off.refl _ _)⟩
      case round =>
        obtain ⟨i, hi, rfl, HC, HO⟩ := hrel
        obtain ⟨c0, c5, c6⟩ := HXw.out wr HO.out
        have hgl := HC.out.lt
        by_cases hlt : i < sn
        · obtain ⟨b, off, rfl, hbl, -⟩ := HST.out.here (by omega)
          obtain ⟨d0, d1, d2, d3, d4⟩ := HST.out.at (HBw.out wr HO.out) hlt
          have hki : (i : Int) < (sn : Int) := by omega
          have hblr : b < wr.heap.size := by have := (HBw.out wr HO.out).size; omega
          cases hlv : (sg sl i).live with
          | false =>
            have HD : Hid (CntO (wr.alloc (.cells #[.int .i64 (sg sl i).gen, .bool false, .bool (sg sl i).two, .int .i64 (sg sl i).pos, .int .i64 (sg sl i).len] 33)) g (owF sl (i + 1))) := hid (by rw [owF_dead sl i hlv]; exact HC.out.kept ((Below.refl _ _).alloc (Nat.le_refl _) _))
            have HD2 : Hid (Off (fun j => j = g) w4 (wr.alloc (.cells #[.int .i64 (sg sl i).gen, .bool false, .bool (sg sl i).two, .int .i64 (sg sl i).pos, .int .i64 (sg sl i).len] 33))) := hid (HO.out.trans (F' := fun j => j = g) (Off.of_below ((Below.refl _ _).alloc (Nat.le_refl _) _)) (fun j hj => Or.inl hj))
            rw [hlv] at d1
            clear HC HO hlv HIN HZ0 HMY
            generalize sg sl i = s at *
            obtain ⟨g0, lv, tw, p, ln⟩ := s
            simp only at d0 d1 d2 d3 d4 HD HD2
            go_wp2
            go_roundw
            case rel => exact ⟨i + 1, by omega, by go_num, HD, HD2⟩
            case measure => simp [intOf]; omega
          | true =>
          cases htw : (sg sl i).two with
          | true =>
            have hmay := HMY.out i hlt hlv
            have HIi := hid (HIN.out i hlt hlv)
            have HZi := hid (HZ0.out i hlt hlv)
            have HT := hid (owJ_turn sl i hlv)
            rw [hlv] at d1
            rw [htw] at d2
            have hnw : nwZ (sg sl i) = ((sg sl i).len + 7) / 8 := by unfold nwZ; rw [htw]; rfl
            have HIW : Hid (∀ k : Int, InW (sg sl i) k ↔ ((sg sl i).pos ≤ k ∧ k < (sg sl i).pos + nwZ (sg sl i))) := hid (fun k => Iff.rfl)
            have HSW : Hid (S5 (wr.alloc (.cells #[.int .i64 (sg sl i).gen, .bool true, .bool true, .int .i64 (sg sl i).pos, .int .i64 (sg sl i).len] 33)) wr.heap.size 0 ⟨(sg sl i).gen, true, true, (sg sl i).pos, (sg sl i).len⟩) := hid (by
              refine S5.of fun j u hu => ?_
              rw [cell_of_row _ wr.heap.size _ _ 33 (0, 0) (heap_alloc_new wr _)]
              simpa [Slt.cells] using hu)
            rw [htw] at HIi
            rw [hnw] at HT HIW
            clear hnw htw hlv
            generalize sg sl i = s at *
            obtain ⟨g0, lv, tw, p, ln⟩ := s
            simp only at d0 d1 d2 d3 d4 hmay HT HIW HSW HIi HZi
            obtain ⟨⟨l1, l2⟩, p1, p2⟩ := hmay
            obtain ⟨pn, rfl⟩ := Int.eq_ofNat_of_zero_le p1
            obtain ⟨zq, hzq⟩ := Int.eq_ofNat_of_zero_le (show 0 ≤ (ln + 7) / 8 by omega)
            have hw1 : IntKind.i64.wrap (ln + 7) = ln + 7 := IntWalk.i64_in _ ⟨by omega, by omega⟩
            have hw2 : Int.tdiv (ln + 7) 8 = (zq : Int) := by rw [Int.tdiv_eq_ediv_of_nonneg (by omega), hzq]
            have hw2' : IntKind.i64.wrap (zq : Int) = (zq : Int) := IntWalk.i64_in _ ⟨by omega, by omega⟩
            have hz257 : zq ≤ 257 := by omega
            rw [hzq] at HT HIW
            have hp2048 : pn ≤ 2048 := by omega
            have hw4 : IntKind.i64.wrap ((pn : Int) + (zq : Int)) = (pn : Int) + (zq : Int) := IntWalk.i64_in _ ⟨by omega, by omega⟩
            have hgne : wr.heap.size ≠ g := by omega
            have HAB : Hid (Below wr.heap.size wr (wr.alloc (.cells #[.int .i64 g0, .bool true, .bool true, .int .i64 (pn : Int), .int .i64 ln] 33))) := hid ((Below.refl _ _).alloc (Nat.le_refl _) _)
            have HC1 := hid (HC.out.kept HAB.out)
            have HO1 : Hid (Off (fun j => j = g) w4 (wr.alloc (.cells #[.int .i64 g0, .bool true, .bool true, .int .i64 (pn : Int), .int .i64 ln] 33))) := hid (HO.out.trans (F' := fun j => j = g) (Off.of_below HAB.out) (fun j hj => Or.inl hj))
            have hglt : wr.heap.size < (wr.alloc (.cells #[.int .i64 g0, .bool true, .bool true, .int .i64 (pn : Int), .int .i64 ln] 33)).heap.size := by simp
            clear HC HO HAB hzq l1 p1 p2
            go_wp2
            obtain ⟨gx, hgx⟩ : ∃ gx, wr.heap.size = gx := ⟨_, rfl⟩
            rw [hgx] at hgne HSW hglt
            have HGX := hid hgx
            generalize wr.alloc (.cells #[.int .i64 g0, .bool true, .bool true, .int .i64 (pn : Int), .int .i64 ln] 33) = W1 at *
            have HSx : Hid (∀ wx, Off (fun j => j = g) W1 wx → wx.cell? ⟨gx, 2, none⟩ = some (.bool true) ∧ wx.cell? ⟨gx, 3, none⟩ = some (.int .i64 (pn : Int))) := hid (fun wx ho => by
              have h5 := HSW.out.same (ho.block gx hglt hgne)
              have q2 := h5.c2
              have q3 := h5.c3
              rw [Nat.zero_add] at q2 q3
              exact ⟨q2, q3⟩)
            rw [hgx]
            clear hgx d0 d1 d2 d3 d4 c0 c5 c6
            go_loopw [9] (fun s9 wx => ∃ j : Nat, pn ≤ j ∧ j ≤ pn + zq ∧ s9 = .int .i64 j ∧ Hid (CntO wx g (owJ sl i (pn : Int) (j : Int))) ∧ Hid (Off (fun j => j = g) W1 wx)) (fun s9 _ => pn + zq - (intOf s9).toNat)
            case atStart => exact ⟨pn, Nat.le_refl _, by omega, rfl, hid (by rw [owJ_none]; exact HC1.out), hid (Off.refl _ _)⟩
            case round =>
              obtain ⟨j, hj1, hj2, rfl, HCj, HOj⟩ := hrel
              have HOw := hid (HO1.out.trans HOj.out (fun j hj => Or.inl hj))
              obtain ⟨x2, x3⟩ := HSx.out _ HOj.out
              obtain ⟨c0, c5, c6⟩ := HXw.out _ HOw.out
              by_cases hjl : j < pn + zq
              · have hji : (j : Int) < (pn : Int) + (zq : Int) := by omega
                obtain ⟨k1, k2, k3, k4⟩ := HIi.out (j : Int) ((HIW.out (j : Int)).2 ⟨by omega, by omega⟩)
                have hz0 := HZi.out j ((HIW.out (j : Int)).2 ⟨by omega, by omega⟩)
                have hjt : j < 2048 := by omega
                have q0 := HCj.out.cell hjt
                rw [owJ_here, hz0] at q0
                have q1 := HCj.out.free j
                have r1 : ¬ (j : Int) < 0 := by omega
                have r2 : ¬ (2048 : Int) ≤ (j : Int) := by omega
                have r3 : ¬ 32 * pg ≤ (j : Int) := by omega
                have r4 : (j : Int) < 32 * bs := of_decide_eq_true k4.symm
                have r5 : IntKind.i64.wrap ((i : Int) + 1) = (i : Int) + 1 := IntWalk.i64_in _ ⟨by omega, by omega⟩
                have HS : Hid (CntO (wr.setCell ⟨g, j, none⟩ (.int .i64 ((i : Int) + 1))) g (owJ sl i (pn : Int) ((j + 1 : Nat) : Int))) := hid (HCj.out.set hjt (owJ_next sl i (by omega)) (fun q _ hq => owJ_other sl i _ hq))
                have HS2 : Hid (Off (fun j => j = g) W1 (wr.setCell ⟨g, j, none⟩ (.int .i64 ((i : Int) + 1)))) := hid (HOj.out.setCell ⟨g, j, none⟩ _ rfl)
                clear k1 k2 k3 k4 hz0 HCj
                go_wp2
                go_roundw
                case rel => exact ⟨j + 1, by omega, by omega, by go_num, HS, HS2⟩
                case measure => simp [intOf]; omega
              · obtain rfl : j = pn + zq := by omega
                have hji : ¬ (((pn + zq : Nat) : Int) < (pn : Int) + (zq : Int)) := by omega
                have HE : Hid (CntO wr g (owF sl (i + 1))) := hid (by
                  have := HCj.out
                  rw [show (((pn + zq : Nat) : Int)) = (pn : Int) + (zq : Int) by omega, HT.out] at this
                  exact this)
                clear HCj HIW HT HIi HZi
                go_wp2
                go_roundw
                case rel => exact ⟨i + 1, by omega, by go_num, HE, HOw⟩
                case measure => simp [intOf]; omega
          | false =>
            have hmay := HMY.out i hlt hlv
            have HIi := hid (HIN.out i hlt hlv)
            have HZi := hid (HZ0.out i hlt hlv)
            have HT := hid (owJ_turn sl i hlv)
            rw [hlv] at d1
            rw [htw] at d2
            have hnw : nwZ (sg sl i) = ((sg sl i).len + 7) / 8 + 2 := by unfold nwZ; rw [htw]; rfl
            have HIW : Hid (∀ k : Int, InW (sg sl i) k ↔ ((sg sl i).pos ≤ k ∧ k < (sg sl i).pos + nwZ (sg sl i))) := hid (fun k => Iff.rfl)
            have HSW : Hid (S5 (wr.alloc (.cells #[.int .i64 (sg sl i).gen, .bool true, .bool false, .int .i64 (sg sl i).pos, .int .i64 (sg sl i).len] 33)) wr.heap.size 0 ⟨(sg sl i).gen, true, false, (sg sl i).pos, (sg sl i).len⟩) := hid (by
              refine S5.of fun j u hu => ?_
              rw [cell_of_row _ wr.heap.size _ _ 33 (0, 0) (heap_alloc_new wr _)]
              simpa [Slt.cells] using hu)
            rw [htw] at HIi
            rw [hnw] at HT HIW
            clear hnw htw hlv
            generalize sg sl i = s at *
            obtain ⟨g0, lv, tw, p, ln⟩ := s
            simp only at d0 d1 d2 d3 d4 hmay HT HIW HSW HIi HZi
            obtain ⟨⟨l1, l2⟩, p1, p2⟩ := hmay
            obtain ⟨pn, rfl⟩ := Int.eq_ofNat_of_zero_le p1
            obtain ⟨zq, hzq⟩ := Int.eq_ofNat_of_zero_le (show 0 ≤ (ln + 7) / 8 by omega)
            have hw1 : IntKind.i64.wrap (ln + 7) = ln + 7 := IntWalk.i64_in _ ⟨by omega, by omega⟩
            have hw2 : Int.tdiv (ln + 7) 8 = (zq : Int) := by rw [Int.tdiv_eq_ediv_of_nonneg (by omega), hzq]
            have hw2' : IntKind.i64.wrap (zq : Int) = (zq : Int) := IntWalk.i64_in _ ⟨by omega, by omega⟩
            have hz257 : zq ≤ 257 := by omega
            rw [hzq] at HT HIW
            have hp2048 : pn ≤ 2048 := by omega
            have hw3 : IntKind.i64.wrap ((zq : Int) + 2) = (zq : Int) + 2 := IntWalk.i64_in _ ⟨by omega, by omega⟩
            have hw4 : IntKind.i64.wrap ((pn : Int) + ((zq : Int) + 2)) = (pn : Int) + ((zq : Int) + 2) := IntWalk.i64_in _ ⟨by omega, by omega⟩
            have hgne : wr.heap.size ≠ g := by omega
            have HAB : Hid (Below wr.heap.size wr (wr.alloc (.cells #[.int .i64 g0, .bool true, .bool false, .int .i64 (pn : Int), .int .i64 ln] 33))) := hid ((Below.refl _ _).alloc (Nat.le_refl _) _)
            have HC1 := hid (HC.out.kept HAB.out)
            have HO1 : Hid (Off (fun j => j = g) w4 (wr.alloc (.cells #[.int .i64 g0, .bool true, .bool false, .int .i64 (pn : Int), .int .i64 ln] 33))) := hid (HO.out.trans (F' := fun j => j = g) (Off.of_below HAB.out) (fun j hj => Or.inl hj))
            have hglt : wr.heap.size < (wr.alloc (.cells #[.int .i64 g0, .bool true, .bool false, .int .i64 (pn : Int), .int .i64 ln] 33)).heap.size := by simp
            clear HC HO HAB hzq l1 p1 p2
            go_wp2
            obtain ⟨gx, hgx⟩ : ∃ gx, wr.heap.size = gx := ⟨_, rfl⟩
            rw [hgx] at hgne HSW hglt
            have HGX := hid hgx
            generalize wr.alloc (.cells #[.int .i64 g0, .bool true, .bool false, .int .i64 (pn : Int), .int .i64 ln] 33) = W1 at *
            have HSx : Hid (∀ wx, Off (fun j => j = g) W1 wx → wx.cell? ⟨gx, 2, none⟩ = some (.bool false) ∧ wx.cell? ⟨gx, 3, none⟩ = some (.int .i64 (pn : Int))) := hid (fun wx ho => by
              have h5 := HSW.out.same (ho.block gx hglt hgne)
              have q2 := h5.c2
              have q3 := h5.c3
              rw [Nat.zero_add] at q2 q3
              exact ⟨q2, q3⟩)
            rw [hgx]
            clear hgx d0 d1 d2 d3 d4 c0 c5 c6
            go_loopw [9] (fun s9 wx => ∃ j : Nat, pn ≤ j ∧ j ≤ pn + (zq + 2) ∧ s9 = .int .i64 j ∧ Hid (CntO wx g (owJ sl i (pn : Int) (j : Int))) ∧ Hid (Off (fun j => j = g) W1 wx)) (fun s9 _ => pn + (zq + 2) - (intOf s9).toNat)
            case atStart => exact ⟨pn, Nat.le_refl _, by omega, rfl, hid (by rw [owJ_none]; exact HC1.out), hid (Off.refl _ _)⟩
            case round =>
              obtain ⟨j, hj1, hj2, rfl, HCj, HOj⟩ := hrel
              have HOw := hid (HO1.out.trans HOj.out (fun j hj => Or.inl hj))
              obtain ⟨x2, x3⟩ := HSx.out _ HOj.out
              obtain ⟨c0, c5, c6⟩ := HXw.out _ HOw.out
              by_cases hjl : j < pn + (zq + 2)
              · have hji : (j : Int) < (pn : Int) + ((zq : Int) + 2) := by omega
                obtain ⟨k1, k2, k3, k4⟩ := HIi.out (j : Int) ((HIW.out (j : Int)).2 ⟨by omega, by omega⟩)
                have hz0 := HZi.out j ((HIW.out (j : Int)).2 ⟨by omega, by omega⟩)
                have hjt : j < 2048 := by omega
                have q0 := HCj.out.cell hjt
                rw [owJ_here, hz0] at q0
                have q1 := HCj.out.free j
                have r1 : ¬ (j : Int) < 0 := by omega
                have r2 : ¬ (2048 : Int) ≤ (j : Int) := by omega
                have r3 : ¬ 32 * pg ≤ (j : Int) := by omega
                have r4 : ¬ (j : Int) < 32 * bs := of_decide_eq_false k4.symm
                have r5 : IntKind.i64.wrap ((i : Int) + 1) = (i : Int) + 1 := IntWalk.i64_in _ ⟨by omega, by omega⟩
                have HS : Hid (CntO (wr.setCell ⟨g, j, none⟩ (.int .i64 ((i : Int) + 1))) g (owJ sl i (pn : Int) ((j + 1 : Nat) : Int))) := hid (HCj.out.set hjt (owJ_next sl i (by omega)) (fun q _ hq => owJ_other sl i _ hq))
                have HS2 : Hid (Off (fun j => j = g) W1 (wr.setCell ⟨g, j, none⟩ (.int .i64 ((i : Int) + 1)))) := hid (HOj.out.setCell ⟨g, j, none⟩ _ rfl)
                clear k1 k2 k3 k4 hz0 HCj
                go_wp2
                go_roundw
                case rel => exact ⟨j + 1, by omega, by omega, by go_num, HS, HS2⟩
                case measure => simp [intOf]; omega
              · obtain rfl : j = pn + (zq + 2) := by omega
                have hji : ¬ (((pn + (zq + 2) : Nat) : Int) < (pn : Int) + ((zq : Int) + 2)) := by omega
                have HE : Hid (CntO wr g (owF sl (i + 1))) := hid (by
                  have := HCj.out
                  rw [show (((pn + (zq + 2) : Nat) : Int)) = (pn : Int) + ((zq : Int) + 2) by omega, HT.out] at this
                  exact this)
                clear HCj HIW HT HIi HZi
                go_wp2
                go_roundw
                case rel => exact ⟨i + 1, by omega, by go_num, HE, HOw⟩
                case measure => simp [intOf]; omega
        · obtain rfl : i = sn := by omega
          have hki : ¬ ((i : Int) < (i : Int)) := by omega
          have HF := hid (HBw.out wr HO.out)
          clear HIN HZ0 HMY HC
          go_wp2
          go_ret
          exact ⟨rfl, HF.out⟩
end Go.Proofs.YtpbljjbhfhfmgaaDoor
