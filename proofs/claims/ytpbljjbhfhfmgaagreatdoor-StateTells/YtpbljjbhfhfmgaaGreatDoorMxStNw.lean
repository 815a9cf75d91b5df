/- StNw · RefStR · StTl · StateTellsWalk: these texts, one behind another. -/
import Derived.Test.YtpbljjbhfhfmgaaGreatDoorMxStC
import Derived.Test.YtpbljjbhfhfmgaaGreatDoorMxRefRootA
import Derived.Test.YtpbljjbhfhfmgaaGreatDoorMxStR
import Derived.Test.YtpbljjbhfhfmgaaGreatDoorMxStQ
import Derived.Test.YtpbljjbhfhfmgaaGreatDoorMxTabC
import Derived.Test.YtpbljjbhfhfmgaaGreatDoorMxGapE
import Derived.Test.YtpbljjbhfhfmgaaGreatDoorMxHpA
import Derived.Test.YtpbljjbhfhfmgaaGreatDoorMxRefSup
import Derived.Test.YtpbljjbhfhfmgaaGreatDoorMxStV
import Derived.Test.YtpbljjbhfhfmgaaGreatDoorMxRefTabA
import Derived.Test.YtpbljjbhfhfmgaaGreatDoorMxSame
import Derived.Deep.RegionWith
/- What a new state's other calls answer: it is right, has no live slot, its copy is the same. -/
namespace Go.Proofs.YtpbljjbhfhfmgaaGreatDoor
set_option maxRecDepth 100000
open Go.RowKit
set_option linter.unusedVariables false
set_option linter.unusedSimpArgs false
set_option maxRecDepth 100000

theorem samS_self (x : Stt) : samS x x = true := by unfold samS; rw [samB_t rfl, samR_t rfl, samD_t rfl]; simp
theorem da_rep (n i : Nat) : da (List.replicate n ([] : List Int)) i = [] := by
  simp only [da, List.getD, List.getElem?_replicate]
  split <;> rfl
theorem nw_small {s : Shp} {m : Int} (hok : NwOk s m) {v : StV} {w : World} (h : Sta w v (nwS s m)) : v.sn ≤ 32 ∧ v.rn ≤ 8 ∧ v.tn ≤ 32 := by
  obtain ⟨⟨_, ⟨_, h3, _⟩, ⟨_, h6, _⟩, _, _⟩, _⟩ := hok
  have e1 := h.s.len
  have e2 := h.r.len
  have e3 := h.d.len
  simp only [nwS, List.length_replicate] at e1 e2 e3
  omega
theorem nw_calls {s : Shp} {m : Int} (hok : NwOk s m) {v : StV} {w : World} (T : Cws w) (h : Sta w v (nwS s m)) :
    Calls Tryz.prog 18 #[.agg (stC v (nwS s m))] w (fun e w' => e = .returned (.bool true) ∧ Below w.heap.size w w') ∧
    Calls Tryz.prog 21 #[.agg (stC v (nwS s m))] w (fun e w' => e = .returned (.int .i64 0) ∧ Below w.heap.size w w') ∧
    Calls Tryz.prog 10 #[.agg (stC v (nwS s m))] w (fun e w' => ∃ v', e = .returned (.agg (stC v' (nwS s m))) ∧ Sta w' v' (nwS s m) ∧ Below w.heap.size w w') := by
  obtain ⟨n1, n2, n3⟩ := nw_small hok h
  obtain ⟨hr, hl⟩ := nw_right hok
  refine ⟨?_, ?_, ?_⟩
  · have := rightSt_any v _ w T h (by omega) (by omega)
    rw [show stB (nwS s m) = true from decide_eq_true hr] at this
    exact this
  · have := live_any v _ w h (by omega)
    rw [hl] at this
    exact this
  · refine (copyS_any v _ w h (by omega) (by omega) (by omega) (fun i hi => ?_) (fun i hi => ?_)).mono ?_
    · have : ra (nwS s m).rt i = Rt.z := ra_rep _ _
      rw [this]
      decide
    · have e1 := (h.d.row i hi).len
      have : da (nwS s m).dt i = [] := da_rep _ _
      rw [this] at e1
      simp at e1
      omega
    · rintro e w' ⟨v', rfl, ho, hb⟩
      exact ⟨v', rfl, ⟨ho.s.tb, ho.r.rs, ho.d.rd (fun i hi => by rw [show da (nwS s m).dt i = [] from da_rep _ _]; intro z hz; cases hz), h.gh, h.gm, h.gb⟩, hb⟩
theorem nw_same {s : Shp} {m : Int} (hok : NwOk s m) {v u : StV} {w : World} (h : Sta w v (nwS s m)) (g : Sta w u (nwS s m)) :
    Calls Tryz.prog 20 #[.agg (stC v (nwS s m)), .agg (stC u (nwS s m))] w (fun e w' => e = .returned (.bool true) ∧ Below w.heap.size w w') ∧
    Calls Tryz.prog 11 #[.agg (stC v (nwS s m)), .agg (stC u (nwS s m))] w (fun e w' => e = .returned (.bool true) ∧ Below w.heap.size w w') := by
  obtain ⟨n1, n2, n3⟩ := nw_small hok h
  obtain ⟨k1, k2, k3⟩ := nw_small hok g
  have h1 := sameS_any v _ u _ w h g ⟨by omega, by omega, by omega, by omega, by omega⟩
  have h2 := rsameS_any v _ u _ w h g ⟨by omega, by omega, by omega, by omega, by omega⟩
  rw [samS_self] at h1 h2
  exact ⟨h1, h2⟩
end Go.Proofs.YtpbljjbhfhfmgaaGreatDoor
/- joistref18.Right by its contract. -/
namespace Go.Proofs.YtpbljjbhfhfmgaaGreatDoor
set_option maxRecDepth 100000
open Go.RowKit
set_option linter.unusedVariables false
set_option linter.unusedSimpArgs false
set_option maxRecDepth 100000

def stMB (x : Stt) : Bool := ((x.md != 1) || ((twL x.sl).length : Int) == 0) && ((x.md != 2) || ((onL x.sl).length : Int) == 0)
theorem st_ref (x : Stt) : stB x = (hpB x.shp x.md x.bs && rightB x.sl && rightRB x.rt && decide ((x.sl.length : Int) = x.shp.sl) && decide ((x.rt.length : Int) = x.shp.rt) && decide (x.dt.length = x.sl.length) && decide (LenD x.sl x.dt) && rightPB (32 * x.bs) (32 * x.shp.pg) (spL (onL x.sl)) && rtO x.bs (twL x.sl) && stMB x) := by
  rw [Bool.eq_iff_iff]
  simp only [Bool.and_eq_true, stB, hpB, rightB, rightRB, rtO, rightPB, decide_eq_true_iff, stMB, Bool.or_eq_true, bne_iff_ne, beq_iff_eq]
  rw [sttR_iff]
  have e1 : ∀ {α : Type} (l : List α), ((l.length : Int) = 0) ↔ l = [] := fun l => by rw [show ((l.length : Int) = 0 ↔ l.length = 0) by omega]; exact List.length_eq_zero_iff
  rw [e1, e1]
  constructor
  · rintro ⟨a, b, c, d, e, f, g, i, j, k, l⟩
    exact ⟨⟨⟨⟨⟨⟨⟨⟨⟨a, b⟩, c⟩, d⟩, e⟩, f⟩, g⟩, i⟩, j⟩, by by_cases h : x.md = 1; exact .inr (k h); exact .inl h, by by_cases h : x.md = 2; exact .inr (l h); exact .inl h⟩
  · rintro ⟨⟨⟨⟨⟨⟨⟨⟨⟨a, b⟩, c⟩, d⟩, e⟩, f⟩, g⟩, i⟩, j⟩, k, l⟩
    exact ⟨a, b, c, d, e, f, g, i, j, fun h => k.elim (fun h2 => absurd h h2) id, fun h => l.elim (fun h2 => absurd h h2) id⟩
set_option maxHeartbeats 8000000 in
theorem rrightSt_any (v : StV) (x : Stt) (w : World) (h : Sta w v x) (hn : v.sn ≤ 100000) (hr : v.rn ≤ 100000) (htn : v.tn ≤ 100000) :
    Calls Tryz.prog 19 #[.agg (stC v x)] w fun e w' => e = .returned (.bool (stB x)) ∧ Below w.heap.size w w' := by
  have hb0 := st_box w v x
  have hB := bxT_new w v x
  have cH := rhRight_any x.shp x.md x.bs (w.alloc (.cells (stC v x) 28))
  have CT : Hid (∀ w1, Below w.heap.size w w1 → _) := hid (fun w1 hb => rright_tb v.so v.sn v.sc x.sl w1 (h.s.below hb) (by omega))
  have CR : Hid (∀ w1, Below w.heap.size w w1 → _) := hid (fun w1 hb => rrightR_rs v.ro v.rn v.rc x.rt w1 (h.r.below hb) (by omega))
  have CO : Hid (∀ w1, Below w.heap.size w w1 → _) := hid (fun w1 hb => rones_any v x w1 (h.below hb) (by omega))
  have CW : Hid (∀ w1, Below w.heap.size w w1 → _) := hid (fun w1 hb => rtwos_any v x w1 (h.below hb) (by omega))
  have CS : Hid (∀ w1 ao n c, Bs w1 ao n c (onL x.sl) → n ≤ 100000 → _) := hid (fun w1 ao n c hb hn => rspansS_bs ao n c (onL x.sl) w1 hb hn)
  have CG : Hid (∀ w1 ao n c, Ps w1 ao n c (spL (onL x.sl)) → n ≤ 100000 → _) := hid (fun w1 ao n c hb hn => rrightP_ps (32 * x.bs) (32 * x.shp.pg) ao n c (spL (onL x.sl)) w1 hb (by omega))
  have CK : Hid (∀ w1 ao n c, Ps w1 ao n c (twL x.sl) → n ≤ 100000 → _) := hid (fun w1 ao n c hb hn => rkinds_ps x.bs ao n c (twL x.sl) w1 hb (by omega))
  have HBD : Hid (hpB x.shp x.md x.bs = true → (0 ≤ x.bs ∧ x.bs ≤ 64) ∧ 0 ≤ x.shp.pg ∧ x.shp.pg ≤ 64) := hid (fun e => by have := (of_decide_eq_true e : HdP x.shp x.md x.bs).nums; omega)
  have hsn := h.s.len
  have hrn := h.r.len
  have htl := h.d.len
  have HS := hid (st_ref x)
  have HX := hid hB
  have HSL := hid (h.s.below hb0)
  have HSD := hid (h.d.below hb0)
  have HB0 := hid hb0
  clear h hb0 hB
  have h2 : decide ((x.sl.length : Int) = x.shp.sl) = !((v.sn : Int) != x.shp.sl) := by rw [hsn, Bool.eq_iff_iff]; simp
  have h4 : decide ((x.rt.length : Int) = x.shp.rt) = !((v.rn : Int) != x.shp.rt) := by rw [hrn, Bool.eq_iff_iff]; simp
  have h5 : decide (x.dt.length = x.sl.length) = !((v.tn : Int) != (v.sn : Int)) := by rw [hsn, htl, Bool.eq_iff_iff]; simp; omega
  rw [h2, h4, h5] at HS
  clear h2 h4 h5
  generalize rightB x.sl = q2 at *
  generalize rightRB x.rt = q3 at *
  generalize hpB x.shp x.md x.bs = q1 at *
  generalize stB x = V at *
  obtain ⟨shp, md, bs, sl, rt, dt⟩ := x
  obtain ⟨so, sn, sc, ro, rn, rc, to, tn, tc, A, N, C⟩ := v
  obtain ⟨pg, s1, r1, m1⟩ := shp
  simp only [stC] at *
  obtain ⟨c0, c1, c2, c3, c4, c5, c6, c7, c8⟩ := HX.out.cells
  simp only at c0 c1 c2 c3 c4 c5 c6 c7 c8
  cases q1 with
  | false =>
    have HV : Hid (V = false) := hid (by rw [HS.out]; simp)
    clear HS CO CW CS CG CK HBD HSL HSD hsn hrn htl
    go_enter Tryz.func19, Tryz.ntmps19
    go_wp2_with (first | (go_at_call 49; refine cH.mono ?_; rintro e w1 ⟨rfl, hb1⟩; have b1 := hb1; clear c0 c1 c2 c3 c4 c5 c6 c7 c8; obtain ⟨c0, c1, c2, c3, c4, c5, c6, c7, c8⟩ := (HX.out.kept b1).cells; simp only at c0 c1 c2 c3 c4 c5 c6 c7 c8) | (go_at_call 50; refine (CT.out _ (next HB0.out b1)).mono ?_; rintro e w2 ⟨rfl, hb2⟩; have b2 := next b1 hb2; clear c0 c1 c2 c3 c4 c5 c6 c7 c8; obtain ⟨c0, c1, c2, c3, c4, c5, c6, c7, c8⟩ := (HX.out.kept b2).cells; simp only at c0 c1 c2 c3 c4 c5 c6 c7 c8) | (go_at_call 51; refine (CR.out _ (next HB0.out b2)).mono ?_; rintro e w3 ⟨rfl, hb3⟩; have b3 := next b2 hb3; clear c0 c1 c2 c3 c4 c5 c6 c7 c8; obtain ⟨c0, c1, c2, c3, c4, c5, c6, c7, c8⟩ := (HX.out.kept b3).cells; simp only at c0 c1 c2 c3 c4 c5 c6 c7 c8))
    go_ret
    exact ⟨by rw [HV.out]; rfl, next HB0.out b3⟩
  | true =>
  cases q2 with
  | false =>
    have HV : Hid (V = false) := hid (by rw [HS.out]; simp)
    clear HS CO CW CS CG CK HBD HSL HSD hsn hrn htl
    go_enter Tryz.func19, Tryz.ntmps19
    go_wp2_with (first | (go_at_call 49; refine cH.mono ?_; rintro e w1 ⟨rfl, hb1⟩; have b1 := hb1; clear c0 c1 c2 c3 c4 c5 c6 c7 c8; obtain ⟨c0, c1, c2, c3, c4, c5, c6, c7, c8⟩ := (HX.out.kept b1).cells; simp only at c0 c1 c2 c3 c4 c5 c6 c7 c8) | (go_at_call 50; refine (CT.out _ (next HB0.out b1)).mono ?_; rintro e w2 ⟨rfl, hb2⟩; have b2 := next b1 hb2; clear c0 c1 c2 c3 c4 c5 c6 c7 c8; obtain ⟨c0, c1, c2, c3, c4, c5, c6, c7, c8⟩ := (HX.out.kept b2).cells; simp only at c0 c1 c2 c3 c4 c5 c6 c7 c8) | (go_at_call 51; refine (CR.out _ (next HB0.out b2)).mono ?_; rintro e w3 ⟨rfl, hb3⟩; have b3 := next b2 hb3; clear c0 c1 c2 c3 c4 c5 c6 c7 c8; obtain ⟨c0, c1, c2, c3, c4, c5, c6, c7, c8⟩ := (HX.out.kept b3).cells; simp only at c0 c1 c2 c3 c4 c5 c6 c7 c8))
    go_ret
    exact ⟨by rw [HV.out]; rfl, next HB0.out b3⟩
  | true =>
  cases q3 with
  | false =>
    have HV : Hid (V = false) := hid (by rw [HS.out]; simp)
    clear HS CO CW CS CG CK HBD HSL HSD hsn hrn htl
    go_enter Tryz.func19, Tryz.ntmps19
    go_wp2_with (first | (go_at_call 49; refine cH.mono ?_; rintro e w1 ⟨rfl, hb1⟩; have b1 := hb1; clear c0 c1 c2 c3 c4 c5 c6 c7 c8; obtain ⟨c0, c1, c2, c3, c4, c5, c6, c7, c8⟩ := (HX.out.kept b1).cells; simp only at c0 c1 c2 c3 c4 c5 c6 c7 c8) | (go_at_call 50; refine (CT.out _ (next HB0.out b1)).mono ?_; rintro e w2 ⟨rfl, hb2⟩; have b2 := next b1 hb2; clear c0 c1 c2 c3 c4 c5 c6 c7 c8; obtain ⟨c0, c1, c2, c3, c4, c5, c6, c7, c8⟩ := (HX.out.kept b2).cells; simp only at c0 c1 c2 c3 c4 c5 c6 c7 c8) | (go_at_call 51; refine (CR.out _ (next HB0.out b2)).mono ?_; rintro e w3 ⟨rfl, hb3⟩; have b3 := next b2 hb3; clear c0 c1 c2 c3 c4 c5 c6 c7 c8; obtain ⟨c0, c1, c2, c3, c4, c5, c6, c7, c8⟩ := (HX.out.kept b3).cells; simp only at c0 c1 c2 c3 c4 c5 c6 c7 c8))
    go_ret
    exact ⟨by rw [HV.out]; rfl, next HB0.out b3⟩
  | true =>
  cases h4 : ((sn : Int) != s1) with
  | true =>
    have HV : Hid (V = false) := hid (by rw [HS.out, h4]; simp)
    clear HS CO CW CS CG CK HBD HSL HSD hsn hrn htl
    go_enter Tryz.func19, Tryz.ntmps19
    go_wp2_with (first | (go_at_call 49; refine cH.mono ?_; rintro e w1 ⟨rfl, hb1⟩; have b1 := hb1; clear c0 c1 c2 c3 c4 c5 c6 c7 c8; obtain ⟨c0, c1, c2, c3, c4, c5, c6, c7, c8⟩ := (HX.out.kept b1).cells; simp only at c0 c1 c2 c3 c4 c5 c6 c7 c8) | (go_at_call 50; refine (CT.out _ (next HB0.out b1)).mono ?_; rintro e w2 ⟨rfl, hb2⟩; have b2 := next b1 hb2; clear c0 c1 c2 c3 c4 c5 c6 c7 c8; obtain ⟨c0, c1, c2, c3, c4, c5, c6, c7, c8⟩ := (HX.out.kept b2).cells; simp only at c0 c1 c2 c3 c4 c5 c6 c7 c8) | (go_at_call 51; refine (CR.out _ (next HB0.out b2)).mono ?_; rintro e w3 ⟨rfl, hb3⟩; have b3 := next b2 hb3; clear c0 c1 c2 c3 c4 c5 c6 c7 c8; obtain ⟨c0, c1, c2, c3, c4, c5, c6, c7, c8⟩ := (HX.out.kept b3).cells; simp only at c0 c1 c2 c3 c4 c5 c6 c7 c8))
    go_ret
    exact ⟨by rw [HV.out]; rfl, next HB0.out b3⟩
  | false =>
  cases h5 : ((rn : Int) != r1) with
  | true =>
    have HV : Hid (V = false) := hid (by rw [HS.out, h5]; simp)
    clear HS CO CW CS CG CK HBD HSL HSD hsn hrn htl
    go_enter Tryz.func19, Tryz.ntmps19
    go_wp2_with (first | (go_at_call 49; refine cH.mono ?_; rintro e w1 ⟨rfl, hb1⟩; have b1 := hb1; clear c0 c1 c2 c3 c4 c5 c6 c7 c8; obtain ⟨c0, c1, c2, c3, c4, c5, c6, c7, c8⟩ := (HX.out.kept b1).cells; simp only at c0 c1 c2 c3 c4 c5 c6 c7 c8) | (go_at_call 50; refine (CT.out _ (next HB0.out b1)).mono ?_; rintro e w2 ⟨rfl, hb2⟩; have b2 := next b1 hb2; clear c0 c1 c2 c3 c4 c5 c6 c7 c8; obtain ⟨c0, c1, c2, c3, c4, c5, c6, c7, c8⟩ := (HX.out.kept b2).cells; simp only at c0 c1 c2 c3 c4 c5 c6 c7 c8) | (go_at_call 51; refine (CR.out _ (next HB0.out b2)).mono ?_; rintro e w3 ⟨rfl, hb3⟩; have b3 := next b2 hb3; clear c0 c1 c2 c3 c4 c5 c6 c7 c8; obtain ⟨c0, c1, c2, c3, c4, c5, c6, c7, c8⟩ := (HX.out.kept b3).cells; simp only at c0 c1 c2 c3 c4 c5 c6 c7 c8))
    go_ret
    exact ⟨by rw [HV.out]; rfl, next HB0.out b3⟩
  | false =>
  cases h6 : ((tn : Int) != (sn : Int)) with
  | true =>
    have HV : Hid (V = false) := hid (by rw [HS.out, h6]; simp)
    clear HS CO CW CS CG CK HBD HSL HSD hsn hrn htl
    go_enter Tryz.func19, Tryz.ntmps19
    go_wp2_with (first | (go_at_call 49; refine cH.mono ?_; rintro e w1 ⟨rfl, hb1⟩; have b1 := hb1; clear c0 c1 c2 c3 c4 c5 c6 c7 c8; obtain ⟨c0, c1, c2, c3, c4, c5, c6, c7, c8⟩ := (HX.out.kept b1).cells; simp only at c0 c1 c2 c3 c4 c5 c6 c7 c8) | (go_at_call 50; refine (CT.out _ (next HB0.out b1)).mono ?_; rintro e w2 ⟨rfl, hb2⟩; have b2 := next b1 hb2; clear c0 c1 c2 c3 c4 c5 c6 c7 c8; obtain ⟨c0, c1, c2, c3, c4, c5, c6, c7, c8⟩ := (HX.out.kept b2).cells; simp only at c0 c1 c2 c3 c4 c5 c6 c7 c8) | (go_at_call 51; refine (CR.out _ (next HB0.out b2)).mono ?_; rintro e w3 ⟨rfl, hb3⟩; have b3 := next b2 hb3; clear c0 c1 c2 c3 c4 c5 c6 c7 c8; obtain ⟨c0, c1, c2, c3, c4, c5, c6, c7, c8⟩ := (HX.out.kept b3).cells; simp only at c0 c1 c2 c3 c4 c5 c6 c7 c8))
    go_ret
    exact ⟨by rw [HV.out]; rfl, next HB0.out b3⟩
  | false =>
  have hts : tn = sn := by simp at h6; omega
  subst hts
  obtain ⟨⟨hbs1, hbs2⟩, hpg1, hpg2⟩ := HBD.out rfl
  have HS2 : Hid (V = (decide (LenD sl dt) && rightPB (32 * bs) (32 * pg) (spL (onL sl)) && rtO bs (twL sl) && stMB ⟨⟨pg, s1, r1, m1⟩, md, bs, sl, rt, dt⟩)) := hid (by rw [HS.out, h4, h5, h6]; simp)
  clear HS HBD
  go_enter Tryz.func19, Tryz.ntmps19
  go_wp2_with (first | (go_at_call 49; refine cH.mono ?_; rintro e w1 ⟨rfl, hb1⟩; have b1 := hb1; clear c0 c1 c2 c3 c4 c5 c6 c7 c8; obtain ⟨c0, c1, c2, c3, c4, c5, c6, c7, c8⟩ := (HX.out.kept b1).cells; simp only at c0 c1 c2 c3 c4 c5 c6 c7 c8) | (go_at_call 50; refine (CT.out _ (next HB0.out b1)).mono ?_; rintro e w2 ⟨rfl, hb2⟩; have b2 := next b1 hb2; clear c0 c1 c2 c3 c4 c5 c6 c7 c8; obtain ⟨c0, c1, c2, c3, c4, c5, c6, c7, c8⟩ := (HX.out.kept b2).cells; simp only at c0 c1 c2 c3 c4 c5 c6 c7 c8) | (go_at_call 51; refine (CR.out _ (next HB0.out b2)).mono ?_; rintro e w3 ⟨rfl, hb3⟩; have b3 := next b2 hb3; clear c0 c1 c2 c3 c4 c5 c6 c7 c8; obtain ⟨c0, c1, c2, c3, c4, c5, c6, c7, c8⟩ := (HX.out.kept b3).cells; simp only at c0 c1 c2 c3 c4 c5 c6 c7 c8))
  have HB3 := hid b3
  have hsn' : sl.length = tn := hsn
  clear c0 c1 c2 c3 c4 c5 c6 c7 c8 cH CT CR h4 h5 h6 b1 b2 b3 hb1 hb2 hb3 hsn hrn
  go_loopw [6] (fun s6 wr => ∃ k : Nat, k ≤ tn ∧ s6 = .int .i64 k ∧ Hid (∀ i, i < k → ((da dt i).length : Int) = (sg sl i).len) ∧ Hid (Below w3.heap.size w3 wr)) (fun s6 _ => tn - (intOf s6).toNat)
  case atStart => exact ⟨0, Nat.zero_le _, rfl, hid (fun i hi => by omega), hid (Below.refl _ _)⟩
  case round =>
    obtain ⟨k, hk, rfl, HE, HW⟩ := hrel
    have HBr := hid (next HB3.out HW.out)
    obtain ⟨c0, c1, c2, c3, c4, c5, c6, c7, c8⟩ := (HX.out.kept HBr.out).cells
    simp only at c0 c1 c2 c3 c4 c5 c6 c7 c8
    by_cases hlt : k < tn
    · obtain ⟨b, off, rfl, -, -⟩ := HSL.out.here (by omega)
      obtain ⟨tb, tof, rfl, -, -⟩ := HSD.out.here (by omega)
      obtain ⟨_, _, _, _, x4⟩ := HSL.out.at HBr.out hlt
      have d0 := HSD.out.cell HBr.out hlt
      have hNk : (da dt k).length = N k := (HSD.out.row k hlt).len
      have hki : (k : Int) < (tn : Int) := by omega
      have HT : Hid ((N k : Int) = (sg sl k).len → ∀ i, i < k + 1 → ((da dt i).length : Int) = (sg sl i).len) := fun e i hi => by
        by_cases e2 : i = k
        · subst e2; rw [hNk]; exact e
        · exact HE.out i (by omega)
      have HF : Hid (¬ (N k : Int) = (sg sl k).len → V = false) := fun e => by
        have hno : ¬ LenD sl dt := fun e2 => e (by rw [← hNk]; exact e2 k (by omega))
        rw [HS2.out, decide_eq_false hno]; simp
      clear hNk HE CO CW CS CG CK HS2
      generalize sg sl k = s at *
      obtain ⟨g0, lv, tw, p, ln⟩ := s
      simp only at x4 HT HF
      generalize A k = a1 at *
      generalize N k = a2 at *
      generalize C k = a3 at *
      by_cases he : (a2 : Int) = ln
      · have HT2 := hid (HT.out he)
        have hq : ((a2 : Int) != ln) = false := by simp [he]
        clear HT HF he
        go_wp2
        go_quiet (fail)
        go_wp2
        go_roundw
        case rel => exact ⟨k + 1, by omega, by go_num, HT2, hid (below_drewN HW.out _)⟩
        case measure => simp [intOf]; omega
      · have HF2 := hid (HF.out he)
        have hq : ((a2 : Int) != ln) = true := by simp [he]
        clear HT HF he
        go_wp2
        go_quiet (fail)
        go_wp2
        go_ret
        exact ⟨by rw [HF2.out]; rfl, next HB0.out (below_drewN HBr.out _)⟩
    · obtain rfl : k = tn := by omega
      have HD : LenD sl dt := fun i hi => HE.out i (by omega)
      have hki : ¬ ((k : Int) < (k : Int)) := by omega
      have HV : Hid (V = (rightPB (32 * bs) (32 * pg) (spL (onL sl)) && rtO bs (twL sl) && stMB ⟨⟨pg, s1, r1, m1⟩, md, bs, sl, rt, dt⟩)) := hid (by rw [HS2.out, decide_eq_true HD]; simp)
      clear HE HS2 HD HSL HSD
      -- what is still asked: of the blocks, of the objects, of the mode
      have HXr := hid (HX.out.kept HBr.out)
      have HBW := hid (next HB0.out HBr.out)
      have cO := CO.out wr HBW.out
      have hol : (onL sl).length ≤ k := by have := onN_len sl sl.length; unfold onL; omega
      have HM : Hid (stMB ⟨⟨pg, s1, r1, m1⟩, md, bs, sl, rt, dt⟩ = (((md != 1) || ((twL sl).length : Int) == 0) && ((md != 2) || ((onL sl).length : Int) == 0))) := hid rfl
      rw [HM.out] at HV
      clear HM CO
      generalize hL : onL sl = L at *
      generalize hJ : twL sl = J at *
      generalize hG0 : rightPB (32 * bs) (32 * pg) (spL L) = G at *
      generalize hK0 : rtO bs J = K at *
      clear hL hJ hG0 hK0
      have wq1 : IntKind.i64.wrap (32 * bs) = 32 * bs := IntWalk.i64_in _ ⟨by omega, by omega⟩
      have wq2 : IntKind.i64.wrap (32 * pg) = 32 * pg := IntWalk.i64_in _ ⟨by omega, by omega⟩
      go_wp2_with (first
        | (go_at_call 15; refine cO.mono ?_; rintro e w4 ⟨oo, M, oc, rfl, ho4, hm4, hb4⟩; have HL4 := hid ho4.bs; have hML : M = L.length := ho4.len.symm; have HB4 := hid (next HBW.out hb4); have HR4 := hid hb4; have cW := CW.out w4 HB4.out; clear c0 c1 c2 c3 c4 c5 c6 c7 c8; obtain ⟨c0, c1, c2, c3, c4, c5, c6, c7, c8⟩ := (HXr.out.kept HR4.out).cells; simp only at c0 c1 c2 c3 c4 c5 c6 c7 c8; have HML := hid hML; clear ho4 hb4 hML)
        | (go_at_call 9; refine cW.mono ?_; rintro e w5 ⟨jo, jn, jc, fo, fc, rfl, hj5, hf5, hn5, hb5⟩; have HJ5 := hid hj5.ps; have HJL : Hid (jn = J.length) := hid hj5.len.symm; have HB5 := hid (next HB4.out hb5); have HR5 := hid (next HR4.out hb5); have HL5 := hid (HL4.out.below hb5); clear c0 c1 c2 c3 c4 c5 c6 c7 c8; obtain ⟨c0, c1, c2, c3, c4, c5, c6, c7, c8⟩ := (HXr.out.kept HR5.out).cells; simp only at c0 c1 c2 c3 c4 c5 c6 c7 c8; clear hj5 hf5 hb5))
      have HD5 : Hid (Below w5.heap.size w5 w5.drew) := hid ((Below.refl _ _).drew)
      have cS := CS.out w5.drew oo M oc (HL5.out.below HD5.out) (by omega)
      have Hcl : Hid (∀ w', Below w5.heap.size w5 w' → w'.cell? ⟨w.heap.size, 5, none⟩ = some (.int .i64 bs) ∧ w'.cell? ⟨w.heap.size, 0, none⟩ = some (.int .i64 pg)) := hid (fun w' hb => ⟨by have := (HXr.out.kept (next HR5.out hb)).cells.c5; simpa using this, by have := (HXr.out.kept (next HR5.out hb)).cells.c0; simpa using this⟩)
      have hMn : M ≤ 100000 := by omega
      clear CW CS
      go_region_held3 (fun w' => w'.cell? ⟨w.heap.size, 5, none⟩ = some (.int .i64 bs) ∧ w'.cell? ⟨w.heap.size, 0, none⟩ = some (.int .i64 pg)) (go_keep) (first
        | (go_at_call 53; with_reducible refine cS.mono ?_; rintro e w6 ⟨so6, sc6, rfl, ho6, hb6⟩; have cG := CG.out w6 so6 M sc6 ho6.ps hMn; have b56 := next HD5.out hb6; obtain ⟨t0, t1⟩ := Hcl.out w6 b56; have B56 := hid b56; clear b56 hb6 ho6)
        | (go_at_call 52; with_reducible refine cG.mono ?_; rintro e w6 ⟨rfl, hb6⟩; have b57 := next B56.out hb6; obtain ⟨t0, t1⟩ := Hcl.out w6 b57; have B57 := hid b57; clear b57 hb6))
      have HB6 := hid (next HB5.out B57.out)
      have HR6 := hid (next HR5.out B57.out)
      have cK := CK.out _ jo jn jc (HJ5.out.below B57.out) (by omega)
      clear c0 c1 c2 c3 c4 c5 c6 c7 c8
      obtain ⟨c0, c1, c2, c3, c4, c5, c6, c7, c8⟩ := (HXr.out.kept HR6.out).cells
      simp only at c0 c1 c2 c3 c4 c5 c6 c7 c8
      have HV3 : Hid (V = (G && K && (((md != 1) || ((jn : Int) == 0)) && ((md != 2) || ((M : Int) == 0))))) := hid (by rw [HV.out, HJL.out, HML.out])
      clear HV CK CG Hcl
      cases G with
      | false =>
        have HV2 : Hid (V = false) := hid (by rw [HV3.out]; rfl)
        clear HV3
        go_wp2_with (first | (go_at_call 54; refine cK.mono ?_; rintro e w7 ⟨bo7, m7, k7, rfl, ho7, hb7⟩; have HB7 := hid (next HB6.out hb7); clear c0 c1 c2 c3 c4 c5 c6 c7 c8; obtain ⟨c0, c1, c2, c3, c4, c5, c6, c7, c8⟩ := (HXr.out.kept (next HR6.out hb7)).cells; simp only at c0 c1 c2 c3 c4 c5 c6 c7 c8; clear ho7 hb7))
        go_ret
        exact ⟨by rw [HV2.out]; rfl, HB7.out⟩
      | true =>
      cases K with
      | false =>
        have HV2 : Hid (V = false) := hid (by rw [HV3.out]; rfl)
        clear HV3
        go_wp2_with (first | (go_at_call 54; refine cK.mono ?_; rintro e w7 ⟨bo7, m7, k7, rfl, ho7, hb7⟩; have HB7 := hid (next HB6.out hb7); clear c0 c1 c2 c3 c4 c5 c6 c7 c8; obtain ⟨c0, c1, c2, c3, c4, c5, c6, c7, c8⟩ := (HXr.out.kept (next HR6.out hb7)).cells; simp only at c0 c1 c2 c3 c4 c5 c6 c7 c8; clear ho7 hb7))
        go_ret
        exact ⟨by rw [HV2.out]; rfl, HB7.out⟩
      | true =>
      cases h1 : (md != 1) with
      | true =>
        cases h2 : (md != 2) with
        | true =>
          have HV2 : Hid (V = true) := hid (by rw [HV3.out, h1, h2]; rfl)
          clear HV3
          go_wp2_with (first | (go_at_call 54; refine cK.mono ?_; rintro e w7 ⟨bo7, m7, k7, rfl, ho7, hb7⟩; have HB7 := hid (next HB6.out hb7); clear c0 c1 c2 c3 c4 c5 c6 c7 c8; obtain ⟨c0, c1, c2, c3, c4, c5, c6, c7, c8⟩ := (HXr.out.kept (next HR6.out hb7)).cells; simp only at c0 c1 c2 c3 c4 c5 c6 c7 c8; clear ho7 hb7))
          go_ret
          exact ⟨by rw [HV2.out]; rfl, HB7.out⟩
        | false =>
          cases z2 : ((M : Int) == 0) with
          | true =>
            have HV2 : Hid (V = true) := hid (by rw [HV3.out, h1, h2, z2]; rfl)
            clear HV3
            go_wp2_with (first | (go_at_call 54; refine cK.mono ?_; rintro e w7 ⟨bo7, m7, k7, rfl, ho7, hb7⟩; have HB7 := hid (next HB6.out hb7); clear c0 c1 c2 c3 c4 c5 c6 c7 c8; obtain ⟨c0, c1, c2, c3, c4, c5, c6, c7, c8⟩ := (HXr.out.kept (next HR6.out hb7)).cells; simp only at c0 c1 c2 c3 c4 c5 c6 c7 c8; clear ho7 hb7))
            go_ret
            exact ⟨by rw [HV2.out]; rfl, HB7.out⟩
          | false =>
            have HV2 : Hid (V = false) := hid (by rw [HV3.out, h1, h2, z2]; rfl)
            clear HV3
            go_wp2_with (first | (go_at_call 54; refine cK.mono ?_; rintro e w7 ⟨bo7, m7, k7, rfl, ho7, hb7⟩; have HB7 := hid (next HB6.out hb7); clear c0 c1 c2 c3 c4 c5 c6 c7 c8; obtain ⟨c0, c1, c2, c3, c4, c5, c6, c7, c8⟩ := (HXr.out.kept (next HR6.out hb7)).cells; simp only at c0 c1 c2 c3 c4 c5 c6 c7 c8; clear ho7 hb7))
            go_ret
            exact ⟨by rw [HV2.out]; rfl, HB7.out⟩
      | false =>
        cases z1 : ((jn : Int) == 0) with
        | false =>
          have HV2 : Hid (V = false) := hid (by rw [HV3.out, h1, z1]; rfl)
          clear HV3
          go_wp2_with (first | (go_at_call 54; refine cK.mono ?_; rintro e w7 ⟨bo7, m7, k7, rfl, ho7, hb7⟩; have HB7 := hid (next HB6.out hb7); clear c0 c1 c2 c3 c4 c5 c6 c7 c8; obtain ⟨c0, c1, c2, c3, c4, c5, c6, c7, c8⟩ := (HXr.out.kept (next HR6.out hb7)).cells; simp only at c0 c1 c2 c3 c4 c5 c6 c7 c8; clear ho7 hb7))
          go_ret
          exact ⟨by rw [HV2.out]; rfl, HB7.out⟩
        | true =>
          cases h2 : (md != 2) with
          | true =>
            have HV2 : Hid (V = true) := hid (by rw [HV3.out, h1, z1, h2]; rfl)
            clear HV3
            go_wp2_with (first | (go_at_call 54; refine cK.mono ?_; rintro e w7 ⟨bo7, m7, k7, rfl, ho7, hb7⟩; have HB7 := hid (next HB6.out hb7); clear c0 c1 c2 c3 c4 c5 c6 c7 c8; obtain ⟨c0, c1, c2, c3, c4, c5, c6, c7, c8⟩ := (HXr.out.kept (next HR6.out hb7)).cells; simp only at c0 c1 c2 c3 c4 c5 c6 c7 c8; clear ho7 hb7))
            go_ret
            exact ⟨by rw [HV2.out]; rfl, HB7.out⟩
          | false =>
            cases z2 : ((M : Int) == 0) with
            | true =>
              have HV2 : Hid (V = true) := hid (by rw [HV3.out, h1, z1, h2, z2]; rfl)
              clear HV3
              go_wp2_with (first | (go_at_call 54; refine cK.mono ?_; rintro e w7 ⟨bo7, m7, k7, rfl, ho7, hb7⟩; have HB7 := hid (next HB6.out hb7); clear c0 c1 c2 c3 c4 c5 c6 c7 c8; obtain ⟨c0, c1, c2, c3, c4, c5, c6, c7, c8⟩ := (HXr.out.kept (next HR6.out hb7)).cells; simp only at c0 c1 c2 c3 c4 c5 c6 c7 c8; clear ho7 hb7))
              go_ret
              exact ⟨by rw [HV2.out]; rfl, HB7.out⟩
            | false =>
              have HV2 : Hid (V = false) := hid (by rw [HV3.out, h1, z1, h2, z2]; rfl)
              clear HV3
              go_wp2_with (first | (go_at_call 54; refine cK.mono ?_; rintro e w7 ⟨bo7, m7, k7, rfl, ho7, hb7⟩; have HB7 := hid (next HB6.out hb7); clear c0 c1 c2 c3 c4 c5 c6 c7 c8; obtain ⟨c0, c1, c2, c3, c4, c5, c6, c7, c8⟩ := (HXr.out.kept (next HR6.out hb7)).cells; simp only at c0 c1 c2 c3 c4 c5 c6 c7 c8; clear ho7 hb7))
              go_ret
              exact ⟨by rw [HV2.out]; rfl, HB7.out⟩
end Go.Proofs.YtpbljjbhfhfmgaaGreatDoor
/- The calls of 'StateTells' by their contracts, for states that are few. -/
namespace Go.Proofs.YtpbljjbhfhfmgaaGreatDoor
set_option maxRecDepth 100000
open Go.RowKit
set_option linter.unusedVariables false
set_option linter.unusedSimpArgs false
set_option maxRecDepth 100000

theorem tl_ones {v : StV} {x : Stt} {w : World} (h : Sta w v x) (hf : Fw v x) :
    Calls Tryz.prog 14 #[.agg (stC v x)] w fun e w' => ∃ bo c, e = .returned (.slice bo (onL x.sl).length c) ∧ Bs w' bo (onL x.sl).length c (onL x.sl) ∧ Below w.heap.size w w' := by
  refine (ones_any v x w h (by have := hf.s; omega)).mono ?_
  rintro e w' ⟨bo, m, c, rfl, ho, hm, hb⟩
  obtain rfl : (onL x.sl).length = m := ho.len
  exact ⟨bo, c, rfl, ho.bs, hb⟩
theorem tl_rones {v : StV} {x : Stt} {w : World} (h : Sta w v x) (hf : Fw v x) :
    Calls Tryz.prog 15 #[.agg (stC v x)] w fun e w' => ∃ bo c, e = .returned (.slice bo (onL x.sl).length c) ∧ Bs w' bo (onL x.sl).length c (onL x.sl) ∧ Below w.heap.size w w' := by
  refine (rones_any v x w h (by have := hf.s; omega)).mono ?_
  rintro e w' ⟨bo, m, c, rfl, ho, hm, hb⟩
  obtain rfl : (onL x.sl).length = m := ho.len
  exact ⟨bo, c, rfl, ho.bs, hb⟩
theorem tl_twos {v : StV} {x : Stt} {w : World} (h : Sta w v x) (hf : Fw v x) :
    Calls Tryz.prog 8 #[.agg (stC v x)] w fun e w' => ∃ bo c fo fc, e = .returned (.tuple #[.slice bo (twL x.sl).length c, .slice fo (twL x.sl).length fc]) ∧ (Ps w' bo (twL x.sl).length c (twL x.sl) ∧ Sl .i64 w' fo (twL x.sl).length fc (twX x.sl)) ∧ Below w.heap.size w w' := by
  refine (twos_any v x w h (by have := hf.s; omega)).mono ?_
  rintro e w' ⟨bo, m, c, fo, fc, rfl, ho, hi, hm, hb⟩
  obtain rfl : (twL x.sl).length = m := ho.len
  exact ⟨bo, c, fo, fc, rfl, ⟨ho.ps, hi.sl⟩, hb⟩
theorem tl_rtwos {v : StV} {x : Stt} {w : World} (h : Sta w v x) (hf : Fw v x) :
    Calls Tryz.prog 9 #[.agg (stC v x)] w fun e w' => ∃ bo c fo fc, e = .returned (.tuple #[.slice bo (twL x.sl).length c, .slice fo (twL x.sl).length fc]) ∧ (Ps w' bo (twL x.sl).length c (twL x.sl) ∧ Sl .i64 w' fo (twL x.sl).length fc (twX x.sl)) ∧ Below w.heap.size w w' := by
  refine (rtwos_any v x w h (by have := hf.s; omega)).mono ?_
  rintro e w' ⟨bo, m, c, fo, fc, rfl, ho, hi, hm, hb⟩
  obtain rfl : (twL x.sl).length = m := ho.len
  exact ⟨bo, c, fo, fc, rfl, ⟨ho.ps, hi.sl⟩, hb⟩
theorem on_60 {v : StV} {x : Stt} {w : World} (h : Sta w v x) (hf : Fw v x) : (onL x.sl).length ≤ 60 ∧ (twL x.sl).length ≤ 60 := by
  have h1 := on_tw x.sl x.sl.length
  have h2 := liN_le x.sl x.sl.length
  have h3 := hf.s
  have h4 := h.s.len
  have h5 : (onL x.sl).length + (twL x.sl).length = liN x.sl x.sl.length := h1
  omega
theorem tl_same {v u : StV} {x y : Stt} {w : World} (h : Sta w v x) (g : Sta w u y) (hf : Fw v x) (gf : Fw u y) :
    Calls Tryz.prog 20 #[.agg (stC v x), .agg (stC u y)] w (fun e w' => e = .returned (.bool (samS x y)) ∧ Below w.heap.size w w') ∧
    Calls Tryz.prog 11 #[.agg (stC v x), .agg (stC u y)] w (fun e w' => e = .returned (.bool (samS x y)) ∧ Below w.heap.size w w') := by
  have h1 := hf.s
  have h2 := hf.r
  have h3 := hf.t
  have h4 := gf.s
  have h5 := gf.r
  have h6 := gf.t
  exact ⟨sameS_any v x u y w h g (by omega), rsameS_any v x u y w h g (by omega)⟩
theorem tl_self {v u : StV} {x : Stt} {w : World} (h : Sta w v x) (g : Sta w u x) (hx : x.sl.length ≤ 60 ∧ x.rt.length ≤ 60 ∧ x.dt.length ≤ 60) :
    Calls Tryz.prog 11 #[.agg (stC v x), .agg (stC u x)] w (fun e w' => e = .returned (.bool true) ∧ Below w.heap.size w w') := by
  have e1 := h.s.len
  have e2 := h.r.len
  have e3 := h.d.len
  have k1 := g.s.len
  have k2 := g.r.len
  have k3 := g.d.len
  have := rsameS_any v x u x w h g (by omega)
  rwa [samS_self] at this
theorem tl_60 {v : StV} {x : Stt} {w : World} (h : Sta w v x) (hf : Fw v x) : x.sl.length ≤ 60 ∧ x.rt.length ≤ 60 ∧ x.dt.length ≤ 60 := by
  have e1 := h.s.len
  have e2 := h.r.len
  have e3 := h.d.len
  have h1 := hf.s
  have h2 := hf.r
  have h3 := hf.t
  omega
theorem tl_ints (ao : Option Addr) (n cap : Nat) (xs : List Int) (bo : Option Addr) (cap' : Nat) (w : World) (h : Sl .i64 w ao n cap xs) (g : Sl .i64 w bo n cap' xs) (hn : n ≤ 60) :
    Calls Tryz.prog 17 #[.slice ao n cap, .slice bo n cap'] w fun e w' => e = .returned (.bool true) ∧ Below w.heap.size w w' := by
  have := same_any ao n cap xs bo n cap' xs w h g (by omega) (by omega)
  rwa [show (xs == xs) = true by simp] at this
theorem OwS.sta {B : Nat} {w w0 : World} {v u : StV} {x : Stt} (h : OwS B w v x) (g : Sta w0 u x) : Sta w v x := ⟨h.s.tb, h.r.rs, h.d.rd (fun i hi => g.d.bytes i (by
  have e1 := h.d.len
  have e2 := g.d.len
  omega)), g.gh, g.gm, g.gb⟩
theorem tl_rcopy {v : StV} {x : Stt} {w : World} (h : Sta w v x) (hf : Fw v x) :
    Calls Tryz.prog 7 #[.agg (stC v x)] w fun e w' => ∃ v', e = .returned (.agg (stC v' x)) ∧ Sta w' v' x ∧ Below w.heap.size w w' :=
  rcopyS_any v x w h (by have := hf.s; omega) (by have := hf.r; omega) (by have := hf.t; omega) (fun i hi => by have := hf.d i hi; omega)
theorem tl_copy {v : StV} {x : Stt} {w : World} (h : Sta w v x) (hf : Fw v x) :
    Calls Tryz.prog 10 #[.agg (stC v x)] w fun e w' => ∃ v', e = .returned (.agg (stC v' x)) ∧ (OwS w.heap.size w' v' x ∧ Sta w' v' x ∧ v'.tn ≤ 60) ∧ Below w.heap.size w w' := by
  refine (copyS_any v x w h (by have := hf.s; omega) (by have := hf.r; omega) (by have := hf.t; omega) (fun i hi => by have := hf.m i hi; omega) (fun i hi => by have := hf.d i hi; omega)).mono ?_
  rintro e w' ⟨v', rfl, ho, hb⟩
  refine ⟨v', rfl, ⟨ho, ho.sta h, ?_⟩, hb⟩
  have e1 := ho.d.len
  have e2 := h.d.len
  have := hf.t
  omega
theorem tl_right {v : StV} {x : Stt} {w : World} (T : Cws w) (h : Sta w v x) (hf : Fw v x) :
    Calls Tryz.prog 18 #[.agg (stC v x)] w (fun e w' => e = .returned (.bool (stB x)) ∧ Below w.heap.size w w') ∧
    Calls Tryz.prog 19 #[.agg (stC v x)] w (fun e w' => e = .returned (.bool (stB x)) ∧ Below w.heap.size w w') ∧
    Calls Tryz.prog 21 #[.agg (stC v x)] w (fun e w' => e = .returned (.int .i64 (liL x.sl : Nat)) ∧ Below w.heap.size w w') ∧
    Calls Tryz.prog 22 #[.agg (stC v x)] w (fun e w' => e = .returned (.int .i64 (liL x.sl : Nat)) ∧ Below w.heap.size w w') :=
  ⟨rightSt_any v x w T h (by have := hf.s; omega) (by have := hf.r; omega), rrightSt_any v x w h (by have := hf.s; omega) (by have := hf.r; omega) (by have := hf.t; omega), live_any v x w h (by have := hf.s; omega), rlive_any v x w h (by have := hf.s; omega)⟩
end Go.Proofs.YtpbljjbhfhfmgaaGreatDoor
/- 'StateTells' walked: which states are right, what they hold, is the document's; a copy is new memory. -/
namespace Go.Proofs.YtpbljjbhfhfmgaaGreatDoor
set_option maxRecDepth 100000
open Go.RowKit
set_option linter.unusedVariables false
set_option linter.unusedSimpArgs false
set_option maxRecDepth 100000

set_option maxHeartbeats 64000000 in
theorem stateTells_walk (w : World) (T : Cws w) (v : StV) (x : Stt) (h : Sta w v x) (hs : v.sc ≤ 9223372036854775807) (hr : v.rc ≤ 9223372036854775807) (ht : v.tc ≤ 9223372036854775807) (u : StV) (y : Stt) (g : Sta w u y) (gs : u.sc ≤ 9223372036854775807) (gr : u.rc ≤ 9223372036854775807) (gt : u.tc ≤ 9223372036854775807) :
    Calls Tryz.prog 3 #[.agg (stC v x), .agg (stC u y)] w fun e w' => e = .returned (.bool true) ∧ Below w.heap.size w w' := by
  have hb0 : Below w.heap.size w ((w.alloc (.cells (stC v x) 28)).alloc (.cells (stC u y) 28)) := ((Below.refl _ _).alloc (Nat.le_refl _) _).alloc (by simp) _
  have hX : BxT ((w.alloc (.cells (stC v x) 28)).alloc (.cells (stC u y) 28)) w.heap.size v x := (bxT_new w v x).more _
  have hY : BxT ((w.alloc (.cells (stC v x) 28)).alloc (.cells (stC u y) 28)) (w.heap.size + 1) u y := by
    have := bxT_new (w.alloc (.cells (stC v x) 28)) u y
    rwa [show (w.alloc (.cells (stC v x) 28)).heap.size = w.heap.size + 1 by simp] at this
  have h1 := h.s.room
  have h2 := h.r.room
  have h3 := h.d.room
  have h4 := g.s.room
  have h5 := g.r.room
  have h6 := g.d.room
  have cS := smallT_any _ (T.kept hb0)
  have CF : Hid (∀ w1, Below w.heap.size w w1 → _) := hid (fun w1 hb => few_any v x w1 (h.below hb) (by omega) (by omega) (by omega))
  have CG : Hid (∀ w1, Below w.heap.size w w1 → _) := hid (fun w1 hb => few_any u y w1 (g.below hb) (by omega) (by omega) (by omega))
  have HV := hid (fun (w1 : World) (hb : Below w.heap.size w w1) => h.below hb)
  have HU := hid (fun (w1 : World) (hb : Below w.heap.size w w1) => g.below hb)
  have HTK := hid (fun (w1 : World) (hb : Below w.heap.size w w1) => T.kept hb)
  have H60 := hid (fun (hf : Fw v x) => on_60 h hf)
  have HTN := hid h.d.len
  have HX := hid hX
  have HY := hid hY
  have HB0 := hid hb0
  clear T h g h1 h2 h3 h4 h5 h6 hX hY hb0 hs hr ht gs gr gt
  have hfx : fwB v x = true → Fw v x := fun e => of_decide_eq_true e
  have hfy : fwB u y = true → Fw u y := fun e => of_decide_eq_true e
  by_cases hfew : fwB v x = true ∧ fwB u y = true
  · obtain ⟨e1, e2⟩ := hfew
    have fx := hfx e1
    have fy := hfy e2
    rw [e1] at CF
    rw [e2] at CG
    have CCq := hid (fun (w1 : World) (hb : Below w.heap.size w w1) => tl_rcopy (HV.out w1 hb) fx)
    have CTt := hid (fun (w1 : World) (hb : Below w.heap.size w w1) => tl_twos (HV.out w1 hb) fx)
    have CTr := hid (fun (w1 : World) (hb : Below w.heap.size w w1) => tl_rtwos (HV.out w1 hb) fx)
    have CCp := hid (fun (w1 : World) (hb : Below w.heap.size w w1) => tl_copy (HV.out w1 hb) fx)
    have CO := hid (fun (w1 : World) (hb : Below w.heap.size w w1) => tl_ones (HV.out w1 hb) fx)
    have COr := hid (fun (w1 : World) (hb : Below w.heap.size w w1) => tl_rones (HV.out w1 hb) fx)
    have CR := hid (fun (w1 : World) (hb : Below w.heap.size w w1) => tl_right (HTK.out w1 hb) (HV.out w1 hb) fx)
    have CQ := hid (fun (w1 : World) (hb : Below w.heap.size w w1) => tl_same (HV.out w1 hb) (HU.out w1 hb) fx fy)
    have CW := hid (fun (w1 : World) (va vb : StV) (ha : Sta w1 va x) (hb : Sta w1 vb x) => tl_self ha hb (tl_60 (HV.out w (Below.refl _ _)) fx))
    have CSp := hid (fun (w1 : World) (va : StV) (B : Nat) (ha : OwS B w1 va x) (hB : B ≤ w1.heap.size) (ht : va.tn ≤ 60) => spoilS_any B va x w1 ha hB (by omega))
    obtain ⟨hL60, hJ60⟩ := H60.out fx
    have hL1 : (onL x.sl).length ≤ 100000 := by omega
    have hJ1 : (twL x.sl).length ≤ 9223372036854775807 := by omega
    clear H60 HTN HU HTK hfx hfy e1 e2 fx fy hL60
    generalize onL x.sl = L at *
    generalize twL x.sl = J at *
    generalize twX x.sl = X at *
    generalize stB x = q2 at *
    generalize samS x y = q1 at *
    generalize liL x.sl = li at *
    generalize L.length = nL at *
    generalize J.length = nJ at *
    have k1 : (q1 == q1) = true := by simp
    have k2 : (q2 == q2) = true := by simp
    have k3 : ((li : Int) == (li : Int)) = true := by simp
    simp only [stC] at *
    go_enter Tryz.func3, Tryz.ntmps3
    go_wp2_with (first
      | (go_at_call 5; refine cS.mono ?_; rintro e w1 ⟨rfl, hb1⟩; have HB1 := hid (next HB0.out hb1); have HK1 := hid hb1; obtain ⟨c0, c1, c2, c3, c4, c5, c6, c7, c8⟩ := (HX.out.kept HK1.out).cells; obtain ⟨d0, d1, d2, d3, d4, d5, d6, d7, d8⟩ := (HY.out.kept HK1.out).cells; clear hb1)
      | (go_at_call 6; first
        | ((with_reducible refine (CF.out _ HB1.out).mono ?_); rintro e w2 ⟨rfl, hb2⟩; have HB2 := hid (next HB1.out hb2); have HK2 := hid (next HK1.out hb2); clear hb2; clear c0 c1 c2 c3 c4 c5 c6 c7 c8; obtain ⟨c0, c1, c2, c3, c4, c5, c6, c7, c8⟩ := (HX.out.kept HK2.out).cells; clear d0 d1 d2 d3 d4 d5 d6 d7 d8; obtain ⟨d0, d1, d2, d3, d4, d5, d6, d7, d8⟩ := (HY.out.kept HK2.out).cells)
        | ((with_reducible refine (CG.out _ HB2.out).mono ?_); rintro e w3 ⟨rfl, hb3⟩; have HB3 := hid (next HB2.out hb3); have HK3 := hid (next HK2.out hb3); clear hb3; clear c0 c1 c2 c3 c4 c5 c6 c7 c8; obtain ⟨c0, c1, c2, c3, c4, c5, c6, c7, c8⟩ := (HX.out.kept HK3.out).cells; clear d0 d1 d2 d3 d4 d5 d6 d7 d8; obtain ⟨d0, d1, d2, d3, d4, d5, d6, d7, d8⟩ := (HY.out.kept HK3.out).cells))
      | (go_at_call 7; (with_reducible refine (CCq.out _ HB3.out).mono ?_); rintro e w4 ⟨vw, rfl, hsw, hb4⟩; have hbW : Below w4.heap.size w4 (w4.alloc (.cells #[.int .i64 x.shp.pg, .int .i64 x.shp.sl, .int .i64 x.shp.rt, .int .i64 x.shp.rm, .int .i64 x.md, .int .i64 x.bs, .slice vw.so vw.sn vw.sc, .slice vw.ro vw.rn vw.rc, .slice vw.to vw.tn vw.tc] 28)) := (Below.refl _ _).alloc (Nat.le_refl _) _; have HW5 : Hid (BxT (w4.alloc (.cells #[.int .i64 x.shp.pg, .int .i64 x.shp.sl, .int .i64 x.shp.rt, .int .i64 x.shp.rm, .int .i64 x.md, .int .i64 x.bs, .slice vw.so vw.sn vw.sc, .slice vw.ro vw.rn vw.rc, .slice vw.to vw.tn vw.tc] 28)) w4.heap.size vw x) := hid (bxT_new w4 vw x); have HS5 := hid (hsw.below hbW); have HB5 := hid (next (next HB3.out hb4) hbW); have HK5 := hid (next (next HK3.out hb4) hbW); clear hsw hb4 hbW; clear c0 c1 c2 c3 c4 c5 c6 c7 c8; obtain ⟨c0, c1, c2, c3, c4, c5, c6, c7, c8⟩ := (HX.out.kept HK5.out).cells; clear d0 d1 d2 d3 d4 d5 d6 d7 d8; obtain ⟨d0, d1, d2, d3, d4, d5, d6, d7, d8⟩ := (HY.out.kept HK5.out).cells)
      | (go_at_call 8; (with_reducible refine (CTt.out _ HB5.out).mono ?_); rintro e w6 ⟨jo, jc, fo, fc, rfl, ⟨hj, hi⟩, hb6⟩; have HJ6 := hid hj; have HI6 := hid hi; have HW6 := hid (HW5.out.kept hb6); have HS6 := hid (HS5.out.below hb6); have HB6 := hid (next HB5.out hb6); have HK6 := hid (next HK5.out hb6); clear hj hi hb6; clear c0 c1 c2 c3 c4 c5 c6 c7 c8; obtain ⟨c0, c1, c2, c3, c4, c5, c6, c7, c8⟩ := (HX.out.kept HK6.out).cells; clear d0 d1 d2 d3 d4 d5 d6 d7 d8; obtain ⟨d0, d1, d2, d3, d4, d5, d6, d7, d8⟩ := (HY.out.kept HK6.out).cells)
      | (go_at_call 9; (with_reducible refine (CTr.out _ HB6.out).mono ?_); rintro e w7 ⟨jo2, jc2, fo2, fc2, rfl, ⟨hj, hi⟩, hb7⟩; have HJ7 := hid (HJ6.out.below hb7); have HI7 := hid (HI6.out.below hb7); have HG7 := hid hj; have HH7 := hid hi; have HW7 := hid (HW6.out.kept hb7); have HS7 := hid (HS6.out.below hb7); have HB7 := hid (next HB6.out hb7); have HK7 := hid (next HK6.out hb7); clear hj hi hb7; clear c0 c1 c2 c3 c4 c5 c6 c7 c8; obtain ⟨c0, c1, c2, c3, c4, c5, c6, c7, c8⟩ := (HX.out.kept HK7.out).cells; clear d0 d1 d2 d3 d4 d5 d6 d7 d8; obtain ⟨d0, d1, d2, d3, d4, d5, d6, d7, d8⟩ := (HY.out.kept HK7.out).cells)
      | (go_at_call 10; (with_reducible refine (CCp.out _ HB7.out).mono ?_); rintro e w8 ⟨vc, rfl, ⟨hoc, hsc, htc⟩, hb8⟩; have hbC : Below w8.heap.size w8 (w8.alloc (.cells #[.int .i64 x.shp.pg, .int .i64 x.shp.sl, .int .i64 x.shp.rt, .int .i64 x.shp.rm, .int .i64 x.md, .int .i64 x.bs, .slice vc.so vc.sn vc.sc, .slice vc.ro vc.rn vc.rc, .slice vc.to vc.tn vc.tc] 28)) := (Below.refl _ _).alloc (Nat.le_refl _) _; have HC9 : Hid (BxT (w8.alloc (.cells #[.int .i64 x.shp.pg, .int .i64 x.shp.sl, .int .i64 x.shp.rt, .int .i64 x.shp.rm, .int .i64 x.md, .int .i64 x.bs, .slice vc.so vc.sn vc.sc, .slice vc.ro vc.rn vc.rc, .slice vc.to vc.tn vc.tc] 28)) w8.heap.size vc x) := hid (bxT_new w8 vc x); have HZ9 := hid (next hb8 hbC); have HO9 := hid (hoc.below hbC); have HP9 := hid (hsc.below hbC); have HT9 := hid htc; have HS9 := hid (HS7.out.below HZ9.out); have hC9 := HC9.out.cells; have hW9 := (HW7.out.kept HZ9.out).cells; obtain ⟨r0, r1, r2, r3, r4, r5, r6, r7, r8⟩ := hC9; obtain ⟨p0, p1, p2, p3, p4, p5, p6, p7, p8⟩ := hW9; clear hoc hsc htc hb8 hbC c0 c1 c2 c3 c4 c5 c6 c7 c8 d0 d1 d2 d3 d4 d5 d6 d7 d8))
    with_reducible refine (CW.out _ vc vw HP9.out HS9.out).mono ?_
    rintro e w10 ⟨rfl, hb10⟩
    have HZ10 := hid (next HZ9.out hb10)
    have HO10 := hid (HO9.out.below hb10)
    clear r0 r1 r2 r3 r4 r5 r6 r7 r8 p0 p1 p2 p3 p4 p5 p6 p7 p8
    obtain ⟨r0, r1, r2, r3, r4, r5, r6, r7, r8⟩ := (HC9.out.kept hb10).cells
    clear hb10
    go_wp2_with fail
    with_reducible refine (CSp.out _ vc _ HO10.out HZ10.out.size HT9.out).mono ?_
    rintro e w11 ⟨rfl, hb11⟩
    have HZ11 := hid (HZ10.out.trans hb11)
    clear r0 r1 r2 r3 r4 r5 r6 r7 r8 hb11
    have hd : Below w11.heap.size w11 w11.drew := (Below.refl _ _).drew
    have hz : Below w7.heap.size w7 w11.drew := next HZ11.out hd
    have HBq := hid (fun (W : World) (hb : Below w11.drew.heap.size w11.drew W) => next (next HB7.out hz) hb)
    have HKq := hid (fun (W : World) (hb : Below w11.drew.heap.size w11.drew W) => (HX.out.kept (next (next HK7.out hz) hb)).cells)
    have HLq := hid (fun (W : World) (hb : Below w11.drew.heap.size w11.drew W) => (HY.out.kept (next (next HK7.out hz) hb)).cells)
    have HSq := hid (HS7.out.below hz)
    have CJq := hid (fun (W : World) (hb : Below w11.drew.heap.size w11.drew W) => objects_ps _ _ _ _ _ _ W ((HJ7.out.below hz).below hb) ((HG7.out.below hz).below hb) hJ1)
    have CIq := hid (fun (W : World) (hb : Below w11.drew.heap.size w11.drew W) => tl_ints _ _ _ _ _ _ W ((HI7.out.below hz).below hb) ((HH7.out.below hz).below hb) hJ60)
    have HDR := hid (Below.refl w11.drew.heap.size w11.drew)
    have HPq := hid (fun (W : World) (hb : Below w11.drew.heap.size w11.drew W) => (HW7.out.kept (next hz hb)).cells)
    have CWq := hid (fun (W : World) (hb : Below w11.drew.heap.size w11.drew W) => CW.out W v vw (HV.out W (HBq.out _ hb)) (HSq.out.below hb))
    try simp only [stC] at CWq
    clear hd hz CF CG CCq CTt CTr CCp CSp HB0 HB1 HB2 HB3 HB5 HB6 HB7 HK1 HK2 HK3 HK5 HK6 HK7 HX HY HW5 HW6 HW7 HS5 HS6 HS7 HS9 HSq HJ6 HI6 HJ7 HI7 HG7 HH7 HZ9 HZ10 HZ11 HO9 HO10 HP9 HT9 HC9 cS CW
    go_wp2_with fail
    refine wp_region_held_drew (S := fun W => Below w11.drew.heap.size w11.drew W) (by kernel_rfl) HDR.out (fun hH => ?_)
    have HS0 := HDR.out
    refine wpAnyH_take (i := 0) (v := ?_) (List.getElem?_toArray.trans rfl) (by kernel_rfl) (by kernel_rfl) (by kernel_rfl) (fun _ _ _ h => h) (Or.inl ⟨by rfl, ?_⟩) (by assumption) ?_
    rotate_left
    · (intro W hSw; skip; go_simp; try (with_reducible rfl))
    simp only [Act.put, List.setIfInBounds_toArray, List.set_cons_zero, List.set_cons_succ]
    refine wpAnyH_take (i := 1) (v := ?_) (List.getElem?_toArray.trans rfl) (by kernel_rfl) (by kernel_rfl) (by kernel_rfl) (fun _ _ _ h => h) (Or.inl ⟨by rfl, ?_⟩) (by assumption) ?_
    rotate_left
    · (intro W hSw; skip; go_simp; try (with_reducible rfl))
    simp only [Act.put, List.setIfInBounds_toArray, List.set_cons_zero, List.set_cons_succ]
    refine wpAnyH_take (i := 2) (v := ?_) (List.getElem?_toArray.trans rfl) (by kernel_rfl) (by kernel_rfl) (by kernel_rfl) (fun _ _ _ h => h) (Or.inl ⟨by rfl, ?_⟩) (by assumption) ?_
    rotate_left
    · (intro W hSw; skip; go_simp; try (with_reducible rfl))
    simp only [Act.put, List.setIfInBounds_toArray, List.set_cons_zero, List.set_cons_succ]
    refine wpAnyH_take (i := 3) (v := ?_) (List.getElem?_toArray.trans rfl) (by kernel_rfl) (by kernel_rfl) (by kernel_rfl) (fun _ _ _ h => h) (Or.inl ⟨by rfl, ?_⟩) (by assumption) ?_
    rotate_left
    · (intro W hSw; skip; go_simp; try (with_reducible rfl))
    simp only [Act.put, List.setIfInBounds_toArray, List.set_cons_zero, List.set_cons_succ]
    refine wpAnyH_take (i := 4) (v := ?_) (List.getElem?_toArray.trans rfl) (by kernel_rfl) (by kernel_rfl) (by kernel_rfl) (fun _ _ _ h => h) (Or.inl ⟨by rfl, ?_⟩) (by assumption) ?_
    rotate_left
    · (intro W hSw; skip; go_simp; try (with_reducible rfl))
    simp only [Act.put, List.setIfInBounds_toArray, List.set_cons_zero, List.set_cons_succ]
    refine wpAnyH_take (i := 5) (v := ?_) (List.getElem?_toArray.trans rfl) (by kernel_rfl) (by kernel_rfl) (by kernel_rfl) (fun _ _ _ h => h) (Or.inl ⟨by rfl, ?_⟩) (by assumption) ?_
    rotate_left
    · (intro W hSw; obtain ⟨c0, c1, c2, c3, c4, c5, c6, c7, c8⟩ := HKq.out _ hSw; go_simp; try (with_reducible rfl))
    simp only [Act.put, List.setIfInBounds_toArray, List.set_cons_zero, List.set_cons_succ]
    refine wpAnyH_take (i := 6) (v := ?_) (List.getElem?_toArray.trans rfl) (by kernel_rfl) (by kernel_rfl) (by kernel_rfl) (fun _ _ _ h => h) (Or.inl ⟨by rfl, ?_⟩) (by assumption) ?_
    rotate_left
    · (intro W hSw; obtain ⟨p0, p1, p2, p3, p4, p5, p6, p7, p8⟩ := HPq.out _ hSw; go_simp; try (with_reducible rfl))
    simp only [Act.put, List.setIfInBounds_toArray, List.set_cons_zero, List.set_cons_succ]
    refine wpAnyH_ready (rs := [7]) (by kernel_rfl) (by simp) ?_
    refine AllReadyH.cons (List.getElem?_toArray.trans rfl) (fun K1 hK1 => ?_) AllReadyH.nil
    go_simp
    refine (CWq.out _ HS0).mono ?_
    rintro e W1 ⟨rfl, hb⟩
    have HS1 := next HS0 hb
    clear hb
    dsimp only
    refine hK1.out _ _ HS1 (fun hHeld1 => ?_)
    clear hK1 K1
    try simp only [Act.put, List.setIfInBounds_toArray, List.set_cons_zero, List.set_cons_succ]
    refine wpAnyH_take (i := 8) (v := ?_) (List.getElem?_toArray.trans rfl) (by kernel_rfl) (by kernel_rfl) (by kernel_rfl) (fun _ _ _ h => h) (Or.inl ⟨by rfl, ?_⟩) (by assumption) ?_
    rotate_left
    · (intro W hSw; skip; go_simp; try (with_reducible rfl))
    simp only [Act.put, List.setIfInBounds_toArray, List.set_cons_zero, List.set_cons_succ]
    refine wpAnyH_take (i := 9) (v := ?_) (List.getElem?_toArray.trans rfl) (by kernel_rfl) (by kernel_rfl) (by kernel_rfl) (fun _ _ _ h => h) (Or.inl ⟨by rfl, ?_⟩) (by assumption) ?_
    rotate_left
    · (intro W hSw; skip; go_simp; try (with_reducible rfl))
    simp only [Act.put, List.setIfInBounds_toArray, List.set_cons_zero, List.set_cons_succ]
    refine wpAnyH_take (i := 10) (v := ?_) (List.getElem?_toArray.trans rfl) (by kernel_rfl) (by kernel_rfl) (by kernel_rfl) (fun _ _ _ h => h) (Or.inl ⟨by rfl, ?_⟩) (by assumption) ?_
    rotate_left
    · (intro W hSw; obtain ⟨c0, c1, c2, c3, c4, c5, c6, c7, c8⟩ := HKq.out _ hSw; go_simp; try (with_reducible rfl))
    simp only [Act.put, List.setIfInBounds_toArray, List.set_cons_zero, List.set_cons_succ]
    refine wpAnyH_take (i := 12) (v := ?_) (List.getElem?_toArray.trans rfl) (by kernel_rfl) (by kernel_rfl) (by kernel_rfl) (fun _ _ _ h => h) (Or.inl ⟨by rfl, ?_⟩) (by assumption) ?_
    rotate_left
    · (intro W hSw; obtain ⟨c0, c1, c2, c3, c4, c5, c6, c7, c8⟩ := HKq.out _ hSw; go_simp; try (with_reducible rfl))
    simp only [Act.put, List.setIfInBounds_toArray, List.set_cons_zero, List.set_cons_succ]
    refine wpAnyH_ready (rs := [11]) (by kernel_rfl) (by simp) ?_
    refine AllReadyH.cons (List.getElem?_toArray.trans rfl) (fun K2 hK2 => ?_) AllReadyH.nil
    go_simp
    refine (CO.out _ (HBq.out _ HS1)).mono ?_
    rintro e W2 ⟨oo, oc, rfl, hl, hb⟩
    have HS2 := next HS1 hb
    have HL1 := hid hl
    clear hb hl
    dsimp only
    refine hK2.out _ _ HS2 (fun hHeld2 => ?_)
    clear hK2 K2
    try simp only [Act.put, List.setIfInBounds_toArray, List.set_cons_zero, List.set_cons_succ]
    refine wpAnyH_ready (rs := [13]) (by kernel_rfl) (by simp) ?_
    refine AllReadyH.cons (List.getElem?_toArray.trans rfl) (fun K3 hK3 => ?_) AllReadyH.nil
    go_simp
    refine (COr.out _ (HBq.out _ HS2)).mono ?_
    rintro e W3 ⟨oo2, oc2, rfl, hl, hb⟩
    have HS3 := next HS2 hb
    have HLL := hid (rsame_bs oo nL oc oo2 oc2 L _ (HL1.out.below hb) hl hL1)
    clear hb hl
    dsimp only
    refine hK3.out _ _ HS3 (fun hHeld3 => ?_)
    clear hK3 K3
    try simp only [Act.put, List.setIfInBounds_toArray, List.set_cons_zero, List.set_cons_succ]
    refine wpAnyH_ready (rs := [14]) (by kernel_rfl) (by simp) ?_
    refine AllReadyH.cons (List.getElem?_toArray.trans rfl) (fun K4 hK4 => ?_) AllReadyH.nil
    go_simp
    refine (HLL.out).mono ?_
    rintro e W4 ⟨rfl, hb⟩
    have HS4 := next HS3 hb
    clear hb
    dsimp only
    refine hK4.out _ _ HS4 (fun hHeld4 => ?_)
    clear hK4 K4
    try simp only [Act.put, List.setIfInBounds_toArray, List.set_cons_zero, List.set_cons_succ]
    refine wpAnyH_take (i := 15) (v := ?_) (List.getElem?_toArray.trans rfl) (by kernel_rfl) (by kernel_rfl) (by kernel_rfl) (fun _ _ _ h => h) (Or.inl ⟨by rfl, ?_⟩) (by assumption) ?_
    rotate_left
    · (intro W hSw; skip; go_simp; try (with_reducible rfl))
    simp only [Act.put, List.setIfInBounds_toArray, List.set_cons_zero, List.set_cons_succ]
    refine wpAnyH_take (i := 16) (v := ?_) (List.getElem?_toArray.trans rfl) (by kernel_rfl) (by kernel_rfl) (by kernel_rfl) (fun _ _ _ h => h) (Or.inl ⟨by rfl, ?_⟩) (by assumption) ?_
    rotate_left
    · (intro W hSw; skip; go_simp; try (with_reducible rfl))
    simp only [Act.put, List.setIfInBounds_toArray, List.set_cons_zero, List.set_cons_succ]
    refine wpAnyH_take (i := 17) (v := ?_) (List.getElem?_toArray.trans rfl) (by kernel_rfl) (by kernel_rfl) (by kernel_rfl) (fun _ _ _ h => h) (Or.inl ⟨by rfl, ?_⟩) (by assumption) ?_
    rotate_left
    · (intro W hSw; skip; go_simp; try (with_reducible rfl))
    simp only [Act.put, List.setIfInBounds_toArray, List.set_cons_zero, List.set_cons_succ]
    refine wpAnyH_take (i := 18) (v := ?_) (List.getElem?_toArray.trans rfl) (by kernel_rfl) (by kernel_rfl) (by kernel_rfl) (fun _ _ _ h => h) (Or.inl ⟨by rfl, ?_⟩) (by assumption) ?_
    rotate_left
    · (intro W hSw; skip; go_simp; try (with_reducible rfl))
    simp only [Act.put, List.setIfInBounds_toArray, List.set_cons_zero, List.set_cons_succ]
    refine wpAnyH_ready (rs := [19]) (by kernel_rfl) (by simp) ?_
    refine AllReadyH.cons (List.getElem?_toArray.trans rfl) (fun K5 hK5 => ?_) AllReadyH.nil
    go_simp
    refine (CJq.out _ HS4).mono ?_
    rintro e W5 ⟨rfl, hb⟩
    have HS5 := next HS4 hb
    clear hb
    dsimp only
    refine hK5.out _ _ HS5 (fun hHeld5 => ?_)
    clear hK5 K5
    try simp only [Act.put, List.setIfInBounds_toArray, List.set_cons_zero, List.set_cons_succ]
    refine wpAnyH_take (i := 20) (v := ?_) (List.getElem?_toArray.trans rfl) (by kernel_rfl) (by kernel_rfl) (by kernel_rfl) (fun _ _ _ h => h) (Or.inl ⟨by rfl, ?_⟩) (by assumption) ?_
    rotate_left
    · (intro W hSw; skip; go_simp; try (with_reducible rfl))
    simp only [Act.put, List.setIfInBounds_toArray, List.set_cons_zero, List.set_cons_succ]
    refine wpAnyH_take (i := 21) (v := ?_) (List.getElem?_toArray.trans rfl) (by kernel_rfl) (by kernel_rfl) (by kernel_rfl) (fun _ _ _ h => h) (Or.inl ⟨by rfl, ?_⟩) (by assumption) ?_
    rotate_left
    · (intro W hSw; skip; go_simp; try (with_reducible rfl))
    simp only [Act.put, List.setIfInBounds_toArray, List.set_cons_zero, List.set_cons_succ]
    refine wpAnyH_take (i := 22) (v := ?_) (List.getElem?_toArray.trans rfl) (by kernel_rfl) (by kernel_rfl) (by kernel_rfl) (fun _ _ _ h => h) (Or.inl ⟨by rfl, ?_⟩) (by assumption) ?_
    rotate_left
    · (intro W hSw; skip; go_simp; try (with_reducible rfl))
    simp only [Act.put, List.setIfInBounds_toArray, List.set_cons_zero, List.set_cons_succ]
    refine wpAnyH_take (i := 23) (v := ?_) (List.getElem?_toArray.trans rfl) (by kernel_rfl) (by kernel_rfl) (by kernel_rfl) (fun _ _ _ h => h) (Or.inl ⟨by rfl, ?_⟩) (by assumption) ?_
    rotate_left
    · (intro W hSw; skip; go_simp; try (with_reducible rfl))
    simp only [Act.put, List.setIfInBounds_toArray, List.set_cons_zero, List.set_cons_succ]
    refine wpAnyH_ready (rs := [24]) (by kernel_rfl) (by simp) ?_
    refine AllReadyH.cons (List.getElem?_toArray.trans rfl) (fun K6 hK6 => ?_) AllReadyH.nil
    go_simp
    refine (CIq.out _ HS5).mono ?_
    rintro e W6 ⟨rfl, hb⟩
    have HS6 := next HS5 hb
    clear hb
    dsimp only
    refine hK6.out _ _ HS6 (fun hHeld6 => ?_)
    clear hK6 K6
    try simp only [Act.put, List.setIfInBounds_toArray, List.set_cons_zero, List.set_cons_succ]
    refine wpAnyH_take (i := 25) (v := ?_) (List.getElem?_toArray.trans rfl) (by kernel_rfl) (by kernel_rfl) (by kernel_rfl) (fun _ _ _ h => h) (Or.inl ⟨by rfl, ?_⟩) (by assumption) ?_
    rotate_left
    · (intro W hSw; skip; go_simp; try (with_reducible rfl))
    simp only [Act.put, List.setIfInBounds_toArray, List.set_cons_zero, List.set_cons_succ]
    refine wpAnyH_take (i := 26) (v := ?_) (List.getElem?_toArray.trans rfl) (by kernel_rfl) (by kernel_rfl) (by kernel_rfl) (fun _ _ _ h => h) (Or.inl ⟨by rfl, ?_⟩) (by assumption) ?_
    rotate_left
    · (intro W hSw; skip; go_simp; try (with_reducible rfl))
    simp only [Act.put, List.setIfInBounds_toArray, List.set_cons_zero, List.set_cons_succ]
    refine wpAnyH_take (i := 27) (v := ?_) (List.getElem?_toArray.trans rfl) (by kernel_rfl) (by kernel_rfl) (by kernel_rfl) (fun _ _ _ h => h) (Or.inl ⟨by rfl, ?_⟩) (by assumption) ?_
    rotate_left
    · (intro W hSw; obtain ⟨c0, c1, c2, c3, c4, c5, c6, c7, c8⟩ := HKq.out _ hSw; go_simp; try (with_reducible rfl))
    simp only [Act.put, List.setIfInBounds_toArray, List.set_cons_zero, List.set_cons_succ]
    refine wpAnyH_take (i := 29) (v := ?_) (List.getElem?_toArray.trans rfl) (by kernel_rfl) (by kernel_rfl) (by kernel_rfl) (fun _ _ _ h => h) (Or.inl ⟨by rfl, ?_⟩) (by assumption) ?_
    rotate_left
    · (intro W hSw; obtain ⟨c0, c1, c2, c3, c4, c5, c6, c7, c8⟩ := HKq.out _ hSw; go_simp; try (with_reducible rfl))
    simp only [Act.put, List.setIfInBounds_toArray, List.set_cons_zero, List.set_cons_succ]
    refine wpAnyH_ready (rs := [28]) (by kernel_rfl) (by simp) ?_
    refine AllReadyH.cons (List.getElem?_toArray.trans rfl) (fun K7 hK7 => ?_) AllReadyH.nil
    go_simp
    refine ((CR.out _ (HBq.out _ HS6)).1).mono ?_
    rintro e W7 ⟨rfl, hb⟩
    have HS7 := next HS6 hb
    clear hb
    dsimp only
    refine hK7.out _ _ HS7 (fun hHeld7 => ?_)
    clear hK7 K7
    try simp only [Act.put, List.setIfInBounds_toArray, List.set_cons_zero, List.set_cons_succ]
    refine wpAnyH_ready (rs := [30]) (by kernel_rfl) (by simp) ?_
    refine AllReadyH.cons (List.getElem?_toArray.trans rfl) (fun K8 hK8 => ?_) AllReadyH.nil
    go_simp
    refine ((CR.out _ (HBq.out _ HS7)).2.1).mono ?_
    rintro e W8 ⟨rfl, hb⟩
    have HS8 := next HS7 hb
    clear hb
    dsimp only
    refine hK8.out _ _ HS8 (fun hHeld8 => ?_)
    clear hK8 K8
    try simp only [Act.put, List.setIfInBounds_toArray, List.set_cons_zero, List.set_cons_succ]
    refine wpAnyH_take (i := 31) (v := ?_) (List.getElem?_toArray.trans rfl) (by kernel_rfl) (by kernel_rfl) (by kernel_rfl) (fun _ _ _ h => h) (Or.inl ⟨by rfl, ?_⟩) (by assumption) ?_
    rotate_left
    · (intro W hSw; skip; go_simp; try (with_reducible rfl))
    simp only [Act.put, List.setIfInBounds_toArray, List.set_cons_zero, List.set_cons_succ]
    refine wpAnyH_take (i := 32) (v := ?_) (List.getElem?_toArray.trans rfl) (by kernel_rfl) (by kernel_rfl) (by kernel_rfl) (fun _ _ _ h => h) (Or.inl ⟨by rfl, ?_⟩) (by assumption) ?_
    rotate_left
    · (intro W hSw; skip; go_simp; try (with_reducible rfl))
    simp only [Act.put, List.setIfInBounds_toArray, List.set_cons_zero, List.set_cons_succ]
    refine wpAnyH_take (i := 33) (v := ?_) (List.getElem?_toArray.trans rfl) (by kernel_rfl) (by kernel_rfl) (by kernel_rfl) (fun _ _ _ h => h) (Or.inl ⟨by rfl, ?_⟩) (by assumption) ?_
    rotate_left
    · (intro W hSw; skip; go_simp; try (with_reducible rfl))
    simp only [Act.put, List.setIfInBounds_toArray, List.set_cons_zero, List.set_cons_succ]
    refine wpAnyH_take (i := 34) (v := ?_) (List.getElem?_toArray.trans rfl) (by kernel_rfl) (by kernel_rfl) (by kernel_rfl) (fun _ _ _ h => h) (Or.inl ⟨by rfl, ?_⟩) (by assumption) ?_
    rotate_left
    · (intro W hSw; obtain ⟨c0, c1, c2, c3, c4, c5, c6, c7, c8⟩ := HKq.out _ hSw; go_simp; try (with_reducible rfl))
    simp only [Act.put, List.setIfInBounds_toArray, List.set_cons_zero, List.set_cons_succ]
    refine wpAnyH_take (i := 35) (v := ?_) (List.getElem?_toArray.trans rfl) (by kernel_rfl) (by kernel_rfl) (by kernel_rfl) (fun _ _ _ h => h) (Or.inl ⟨by rfl, ?_⟩) (by assumption) ?_
    rotate_left
    · (intro W hSw; obtain ⟨d0, d1, d2, d3, d4, d5, d6, d7, d8⟩ := HLq.out _ hSw; go_simp; try (with_reducible rfl))
    simp only [Act.put, List.setIfInBounds_toArray, List.set_cons_zero, List.set_cons_succ]
    refine wpAnyH_take (i := 37) (v := ?_) (List.getElem?_toArray.trans rfl) (by kernel_rfl) (by kernel_rfl) (by kernel_rfl) (fun _ _ _ h => h) (Or.inl ⟨by rfl, ?_⟩) (by assumption) ?_
    rotate_left
    · (intro W hSw; obtain ⟨c0, c1, c2, c3, c4, c5, c6, c7, c8⟩ := HKq.out _ hSw; go_simp; try (with_reducible rfl))
    simp only [Act.put, List.setIfInBounds_toArray, List.set_cons_zero, List.set_cons_succ]
    refine wpAnyH_take (i := 38) (v := ?_) (List.getElem?_toArray.trans rfl) (by kernel_rfl) (by kernel_rfl) (by kernel_rfl) (fun _ _ _ h => h) (Or.inl ⟨by rfl, ?_⟩) (by assumption) ?_
    rotate_left
    · (intro W hSw; obtain ⟨d0, d1, d2, d3, d4, d5, d6, d7, d8⟩ := HLq.out _ hSw; go_simp; try (with_reducible rfl))
    simp only [Act.put, List.setIfInBounds_toArray, List.set_cons_zero, List.set_cons_succ]
    refine wpAnyH_ready (rs := [36]) (by kernel_rfl) (by simp) ?_
    refine AllReadyH.cons (List.getElem?_toArray.trans rfl) (fun K9 hK9 => ?_) AllReadyH.nil
    go_simp
    refine ((CQ.out _ (HBq.out _ HS8)).1).mono ?_
    rintro e W9 ⟨rfl, hb⟩
    have HS9 := next HS8 hb
    clear hb
    dsimp only
    refine hK9.out _ _ HS9 (fun hHeld9 => ?_)
    clear hK9 K9
    try simp only [Act.put, List.setIfInBounds_toArray, List.set_cons_zero, List.set_cons_succ]
    refine wpAnyH_ready (rs := [39]) (by kernel_rfl) (by simp) ?_
    refine AllReadyH.cons (List.getElem?_toArray.trans rfl) (fun K10 hK10 => ?_) AllReadyH.nil
    go_simp
    refine ((CQ.out _ (HBq.out _ HS9)).2).mono ?_
    rintro e W10 ⟨rfl, hb⟩
    have HS10 := next HS9 hb
    clear hb
    dsimp only
    refine hK10.out _ _ HS10 (fun hHeld10 => ?_)
    clear hK10 K10
    try simp only [Act.put, List.setIfInBounds_toArray, List.set_cons_zero, List.set_cons_succ]
    refine wpAnyH_take (i := 40) (v := ?_) (List.getElem?_toArray.trans rfl) (by kernel_rfl) (by kernel_rfl) (by kernel_rfl) (fun _ _ _ h => h) (Or.inl ⟨by rfl, ?_⟩) (by assumption) ?_
    rotate_left
    · (intro W hSw; skip; go_simp; try (with_reducible rfl))
    simp only [Act.put, List.setIfInBounds_toArray, List.set_cons_zero, List.set_cons_succ]
    refine wpAnyH_take (i := 41) (v := ?_) (List.getElem?_toArray.trans rfl) (by kernel_rfl) (by kernel_rfl) (by kernel_rfl) (fun _ _ _ h => h) (Or.inl ⟨by rfl, ?_⟩) (by assumption) ?_
    rotate_left
    · (intro W hSw; skip; go_simp; try (with_reducible rfl))
    simp only [Act.put, List.setIfInBounds_toArray, List.set_cons_zero, List.set_cons_succ]
    refine wpAnyH_take (i := 42) (v := ?_) (List.getElem?_toArray.trans rfl) (by kernel_rfl) (by kernel_rfl) (by kernel_rfl) (fun _ _ _ h => h) (Or.inl ⟨by rfl, ?_⟩) (by assumption) ?_
    rotate_left
    · (intro W hSw; skip; go_simp; try (with_reducible rfl))
    simp only [Act.put, List.setIfInBounds_toArray, List.set_cons_zero, List.set_cons_succ]
    refine wpAnyH_take (i := 43) (v := ?_) (List.getElem?_toArray.trans rfl) (by kernel_rfl) (by kernel_rfl) (by kernel_rfl) (fun _ _ _ h => h) (Or.inl ⟨by rfl, ?_⟩) (by assumption) ?_
    rotate_left
    · (intro W hSw; obtain ⟨c0, c1, c2, c3, c4, c5, c6, c7, c8⟩ := HKq.out _ hSw; go_simp; try (with_reducible rfl))
    simp only [Act.put, List.setIfInBounds_toArray, List.set_cons_zero, List.set_cons_succ]
    refine wpAnyH_take (i := 45) (v := ?_) (List.getElem?_toArray.trans rfl) (by kernel_rfl) (by kernel_rfl) (by kernel_rfl) (fun _ _ _ h => h) (Or.inl ⟨by rfl, ?_⟩) (by assumption) ?_
    rotate_left
    · (intro W hSw; obtain ⟨c0, c1, c2, c3, c4, c5, c6, c7, c8⟩ := HKq.out _ hSw; go_simp; try (with_reducible rfl))
    simp only [Act.put, List.setIfInBounds_toArray, List.set_cons_zero, List.set_cons_succ]
    refine wpAnyH_ready (rs := [44]) (by kernel_rfl) (by simp) ?_
    refine AllReadyH.cons (List.getElem?_toArray.trans rfl) (fun K11 hK11 => ?_) AllReadyH.nil
    go_simp
    refine ((CR.out _ (HBq.out _ HS10)).2.2.1).mono ?_
    rintro e W11 ⟨rfl, hb⟩
    have HS11 := next HS10 hb
    clear hb
    dsimp only
    refine hK11.out _ _ HS11 (fun hHeld11 => ?_)
    clear hK11 K11
    try simp only [Act.put, List.setIfInBounds_toArray, List.set_cons_zero, List.set_cons_succ]
    refine wpAnyH_ready (rs := [46]) (by kernel_rfl) (by simp) ?_
    refine AllReadyH.cons (List.getElem?_toArray.trans rfl) (fun K12 hK12 => ?_) AllReadyH.nil
    go_simp
    refine ((CR.out _ (HBq.out _ HS11)).2.2.2).mono ?_
    rintro e W12 ⟨rfl, hb⟩
    have HS12 := next HS11 hb
    clear hb
    dsimp only
    refine hK12.out _ _ HS12 (fun hHeld12 => ?_)
    clear hK12 K12
    try simp only [Act.put, List.setIfInBounds_toArray, List.set_cons_zero, List.set_cons_succ]
    refine wpAnyH_take (i := 47) (v := ?_) (List.getElem?_toArray.trans rfl) (by kernel_rfl) (by kernel_rfl) (by kernel_rfl) (fun _ _ _ h => h) (Or.inl ⟨by rfl, ?_⟩) (by assumption) ?_
    rotate_left
    · (intro W hSw; skip; go_simp; try (with_reducible rfl))
    simp only [Act.put, List.setIfInBounds_toArray, List.set_cons_zero, List.set_cons_succ]
    refine wpAnyH_take (i := 48) (v := ?_) (List.getElem?_toArray.trans rfl) (by kernel_rfl) (by kernel_rfl) (by kernel_rfl) (fun _ _ _ h => h) (Or.inl ⟨by rfl, ?_⟩) (by assumption) ?_
    rotate_left
    · (intro W hSw; skip; go_simp; try (with_reducible rfl))
    simp only [Act.put, List.setIfInBounds_toArray, List.set_cons_zero, List.set_cons_succ]
    refine wpAnyH_take (i := 49) (v := ?_) (List.getElem?_toArray.trans rfl) (by kernel_rfl) (by kernel_rfl) (by kernel_rfl) (fun _ _ _ h => h) (Or.inl ⟨by rfl, ?_⟩) (by assumption) ?_
    rotate_left
    · (intro W hSw; skip; go_simp; try (with_reducible rfl))
    simp only [Act.put, List.setIfInBounds_toArray, List.set_cons_zero, List.set_cons_succ]
    refine wpAnyH_done (by kernel_rfl) ?_ _
    go_wp2
    go_ret
    exact ⟨rfl, HBq.out _ HS12⟩
  · have hno : fwB v x = false ∨ (fwB v x = true ∧ fwB u y = false) := by
      cases e1 : fwB v x
      · exact .inl rfl
      · cases e2 : fwB u y
        · exact .inr ⟨rfl, rfl⟩
        · exact absurd ⟨e1, e2⟩ hfew
    clear H60 HTN HU HTK hfx hfy hfew HV
    generalize fwB v x = f1 at *
    generalize fwB u y = f2 at *
    simp only [stC] at *
    have HLA : Hid (∀ w', Below w.heap.size w w' → Below w.heap.size w w') := hid (fun _ h => h)
    rcases hno with rfl | ⟨rfl, rfl⟩
    · cases f2 <;>
      · go_enter Tryz.func3, Tryz.ntmps3
        go_wp2_with (first
          | (go_at_call 5; refine cS.mono ?_; rintro e w1 ⟨rfl, hb1⟩; have HB1 := hid (next HB0.out hb1); have HK1 := hid hb1; obtain ⟨c0, c1, c2, c3, c4, c5, c6, c7, c8⟩ := (HX.out.kept HK1.out).cells; obtain ⟨d0, d1, d2, d3, d4, d5, d6, d7, d8⟩ := (HY.out.kept HK1.out).cells; clear hb1)
          | (go_at_call 6; first
            | ((with_reducible refine (CF.out _ HB1.out).mono ?_); rintro e w2 ⟨rfl, hb2⟩; have HB2 := hid (next HB1.out hb2); have HK2 := hid (next HK1.out hb2); clear hb2; clear c0 c1 c2 c3 c4 c5 c6 c7 c8; obtain ⟨c0, c1, c2, c3, c4, c5, c6, c7, c8⟩ := (HX.out.kept HK2.out).cells; clear d0 d1 d2 d3 d4 d5 d6 d7 d8; obtain ⟨d0, d1, d2, d3, d4, d5, d6, d7, d8⟩ := (HY.out.kept HK2.out).cells)
            | ((with_reducible refine (CG.out _ HB2.out).mono ?_); rintro e w3 ⟨rfl, hb3⟩; have HB3 := hid (next HB2.out hb3); clear hb3)))
        go_ret
        exact ⟨rfl, HB3.out⟩
    · go_enter Tryz.func3, Tryz.ntmps3
      go_wp2_with (first
        | (go_at_call 5; refine cS.mono ?_; rintro e w1 ⟨rfl, hb1⟩; have HB1 := hid (next HB0.out hb1); have HK1 := hid hb1; obtain ⟨c0, c1, c2, c3, c4, c5, c6, c7, c8⟩ := (HX.out.kept HK1.out).cells; obtain ⟨d0, d1, d2, d3, d4, d5, d6, d7, d8⟩ := (HY.out.kept HK1.out).cells; clear hb1)
        | (go_at_call 6; first
          | ((with_reducible refine (CF.out _ HB1.out).mono ?_); rintro e w2 ⟨rfl, hb2⟩; have HB2 := hid (next HB1.out hb2); have HK2 := hid (next HK1.out hb2); clear hb2; clear c0 c1 c2 c3 c4 c5 c6 c7 c8; obtain ⟨c0, c1, c2, c3, c4, c5, c6, c7, c8⟩ := (HX.out.kept HK2.out).cells; clear d0 d1 d2 d3 d4 d5 d6 d7 d8; obtain ⟨d0, d1, d2, d3, d4, d5, d6, d7, d8⟩ := (HY.out.kept HK2.out).cells)
          | ((with_reducible refine (CG.out _ HB2.out).mono ?_); rintro e w3 ⟨rfl, hb3⟩; have HB3 := hid (next HB2.out hb3); clear hb3)))
      go_ret
      exact ⟨rfl, HB3.out⟩
end Go.Proofs.YtpbljjbhfhfmgaaGreatDoor
