/- joistlaw03.tells by its contract. -/
import Derived.Test.YtcelmnhdchfhiaaRAb
import Derived.Test.YtcelmnhdchfhiaaSame
import Derived.Test.YtcelmnhdchfhiaaTellsB
import Derived.Deep.DeepCutAuto
import Derived.Deep.RegionWith
namespace Go.Proofs.Ytcelmnhdchfhiaa
open Go.RowKit
set_option linter.unusedVariables false

set_option maxRecDepth 100000 in
set_option maxHeartbeats 4000000 in
theorem tells_any {w : World} {F G : Nat → Prop} {p q : Nat} {S : St} {R : RSt} (hd : Dev w F p S) (hr : RDev w G q R) (hab : Ab S R) :
    Calls Try.prog 26 #[.pointer (some ⟨p, 0, none⟩), .pointer (some ⟨q, 0, none⟩)] w fun e w' => e = .returned (.bool true) ∧ Below w.heap.size w w' := by
  have hok := hd.ok
  have hn9 := hok.n1
  have hLn : S.seen.length = 64 * R.n := by rw [hok.len, hab.n]
  have eL := hab.la
  have eS := hab.se
  have eD := ab_dirty hab
  have hdl : (dirtyL S).length ≤ 4096 := by
    rw [dirtyL, List.length_map]
    exact Nat.le_trans (List.length_filter_le _ _) (by simp; exact hn9)
  have cI := image_any hd
  rw [hLn] at cI
  obtain ⟨L, hL⟩ : ∃ L, 64 * R.n = L := ⟨_, rfl⟩
  have hL9 : L ≤ 140737488355328 := by rw [hab.n] at hL; omega
  rw [hL] at cI
  go_enter Try.func26, Try.ntmps26
  go_upto_region 4 with (first
    | (go_at_call 28; with_reducible refine cI.mono ?_; rintro e w1 ⟨ga, ca, rfl, oa, hb1⟩; have hd1 := hd.below hb1; have cV := view_any hd1; rw [hLn, hL] at cV)
    | (go_at_call 29; with_reducible refine cV.mono ?_; rintro e w2 ⟨gb, cb, rfl, ob, hb2⟩; have hd2 := hd1.below hb2; have cD := dirty_any hd2; have oa2 := oa.below hb2)
    | (go_at_call 31; with_reducible refine cD.mono ?_; rintro e w3 ⟨lo, lc, rfl, ol, hb3⟩; have oa3 := oa2.below hb3; have ob3 := ob.below hb3))
  have hb123 := next (next hb1 hb2) hb3
  go_cut [8] (fun c wx => c = .bool true ∧ Below w3.heap.size w3 wx)
  case first =>
    have d3 : Below w3.heap.size w3 w3.drew := (Below.refl _ _).drew
    have va := oa3.below d3
    have vb := ob3.below d3
    have vl := ol.below d3
    have hr3 := (hr.below hb123).below d3
    have ta := va.sl.text (P := Try.prog) Try.underlying22 Try.underlying5 Try.underlying9
    have tb := vb.sl.text (P := Try.prog) Try.underlying22 Try.underlying5 Try.underlying9
    have cRI := rimage_any hr3
    rw [hL, eL] at cRI
    clear oa oa2 oa3 ob ob3 ol hd hd1 hd2 cI cV cD hb1 hb2 hb3 hr
    generalize lasts S = LS at *
    generalize dirtyL S = DS at *
    have same1 : (DS == DS) = true := by simp
    have hdl2 : DS.length ≤ 140737488355328 := by omega
    go_region_with (first
      | (go_at_call 42; with_reducible refine cRI.mono ?_; rintro e w4 ⟨ao4, c4, rfl, o4, hb4⟩; have t4 := o4.sl.text (P := Try.prog) Try.underlying22 Try.underlying5 Try.underlying9; have ta4 := (va.below hb4).sl.text (P := Try.prog) Try.underlying22 Try.underlying5 Try.underlying9; have tb4 := (vb.below hb4).sl.text (P := Try.prog) Try.underlying22 Try.underlying5 Try.underlying9; have cRV := rview_any (hr3.below hb4); rw [hL, eS] at cRV; have b34 := d3.trans (hb4.mono d3.size))
      | (go_at_call 43; with_reducible refine cRV.mono ?_; rintro e w5 ⟨ao5, c5, rfl, o5, hb5⟩; have t5 := o5.sl.text (P := Try.prog) Try.underlying22 Try.underlying5 Try.underlying9; have tb5 := ((vb.below hb4).below hb5).sl.text (P := Try.prog) Try.underlying22 Try.underlying5 Try.underlying9; have cRD := rdirty_any ((hr3.below hb4).below hb5); rw [eD] at cRD; have b35 := next b34 hb5)
      | (go_at_call 41; with_reducible refine cRD.mono ?_; rintro e w6 ⟨ao6, c6, rfl, o6, hb6⟩; have vl6 := ((vl.below hb4).below hb5).below hb6; have b36 := next b35 hb6)
      | (go_at_call 44; with_reducible refine (same_any _ _ _ DS _ _ _ DS _ vl6.sl o6.sl hdl2 hdl2).mono ?_; rintro e w7 ⟨rfl, hb7⟩; rw [same1]; have b37 := next b36 hb7))
    all_goals (go_wp2_with fail; go_meet; exact ⟨by simp, b37⟩)
  case rest =>
    obtain ⟨rfl, hbc⟩ := hcut
    have ra := (oa3.below hbc).rowb
    have rb := (ob3.below hbc).rowb
    have olc := ol.below hbc
    have hba := oa.base
    have hbb := ob.base
    have cO := owned_two (B := w.heap.size) ra (rb.mono hb1.size) (fun _ _ e => (by simp only [blk] at e; omega))
    have hbw := next hb123 hbc
    have hbol : ∀ c, lo = some c → w2.heap.size ≤ c.block := fun c hc => by
      rcases ol.row.2 with ⟨hv, _⟩ | ⟨g, cap', cur, hv, hg, _⟩
      · simp only [Value.slice.injEq] at hv; rw [hc] at hv; simp at hv
      · simp only [Value.slice.injEq] at hv; rw [hc] at hv; simp only [Option.some.injEq] at hv; rw [hv.1]; exact hg
    have hs12 := hb2.size
    have hs01 := hb1.size
    obtain ⟨nl, hnl⟩ : ∃ nl, (dirtyL S).length = nl := ⟨_, rfl⟩
    rw [hnl] at olc hdl ⊢
    clear oa2 oa3 ob3 ol hd1 hd2 cI cV cD
    generalize dirtyL S = DS at *
    go_wp2_with (first
      | (go_at_call 12; with_reducible refine cO.mono ?_; rintro e w5 ⟨rfl, ho⟩;
         have hbA : Below wc.heap.size wc (wc.alloc (.cells #[.slice (some ⟨ga, 0, none⟩) L ca, .slice (some ⟨gb, 0, none⟩) L cb] 22)) := (Below.refl _ _).alloc (Nat.le_refl _) _;
         have hb5 : Below w.heap.size w w5 := (next hbw hbA).trans (ho.below (fun j hj => (by simp only [blk] at hj; omega)) (Nat.le_trans hbw.size hbA.size));
         have ol5 := (olc.below hbA).off ho (fun c hc hf => (by have h1 := hbol c hc; simp only [blk] at hf; omega))))
    go_loopw [9] (fun t wr => ∃ (k : Nat) (Z : List Int), k ≤ nl ∧ t = .int .i64 k ∧ Own .i64 3 w2.heap.size wr lo nl lc Z ∧ Below w.heap.size w wr) (fun t _ => nl - (intOf t).toNat)
    case atStart => exact ⟨0, DS, Nat.zero_le _, rfl, ol5, hb5⟩
    case round =>
      clear ol5 hb5
      obtain ⟨k, Z, hk, rfl, hown, hb⟩ := hrel
      by_cases hlt : k < nl
      · obtain ⟨lb, lc', hsh⟩ := own_shape hown.row (by omega)
        simp only [Value.slice.injEq] at hsh
        obtain ⟨rfl, _, rfl⟩ := hsh
        obtain ⟨⟨v, x1⟩, x2, o2⟩ := own_over hown k hlt
        have hki : (k : Int) < nl := by omega
        have hlb := hown.base
        have H := hid o2
        clear hown o2
        go_wp2
        go_roundw
        case rel => exact ⟨k + 1, _, by omega, by go_num, H.out, hb.setCell (by show w.heap.size ≤ lb; omega) _⟩
        case measure => simp [intOf]; omega
      · obtain rfl : k = nl := by omega
        have cD1 := down_any (hd.below hb)
        have cD2 := rdown_any (hr.below hb)
        rw [hab.dn] at cD2
        have cL1 := lines_any (hd.below hb)
        have cL2 := rlines_any (hr.below hb)
        rw [hab.n] at cL2
        clear hown
        go_wp2_with (first
          | (go_at_call 30; with_reducible refine cD1.mono ?_; rintro e w' ⟨rfl, rfl⟩)
          | (go_at_call 45; with_reducible refine cD2.mono ?_; rintro e w' ⟨rfl, rfl⟩)
          | (go_at_call 32; with_reducible refine cL1.mono ?_; rintro e w' ⟨rfl, rfl⟩)
          | (go_at_call 46; with_reducible refine cL2.mono ?_; rintro e w' ⟨rfl, rfl⟩))
        all_goals (go_ret; exact ⟨by simp, hb⟩)
end Go.Proofs.Ytcelmnhdchfhiaa
