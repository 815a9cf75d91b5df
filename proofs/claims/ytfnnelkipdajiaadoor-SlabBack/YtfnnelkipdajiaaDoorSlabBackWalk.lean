/- 'SlabBack' walked: what is written is read, and the other way round. -/
import Derived.Test.YtfnnelkipdajiaaDoorSlabReadsWalk
import Derived.Test.YtfnnelkipdajiaaDoorSlP
import Derived.Test.YtfnnelkipdajiaaDoorZero
import Derived.BigQuiet
namespace Go.Proofs.YtfnnelkipdajiaaDoor
set_option maxRecDepth 100000
open Go.RowKit
set_option linter.unusedVariables false
set_option linter.unusedSimpArgs false
set_option maxRecDepth 100000

theorem pd_two {c : Int} {d : List Int} (h : d.length ≤ wB8 c) : (pdD c d).take d.length = d ∧ allZ ((pdD c d).drop d.length) = true := by
  unfold pdD
  refine ⟨by simp, ?_⟩
  rw [List.drop_left' rfl]
  simp [allZ]
set_option maxHeartbeats 4000000 in
theorem slabBack_walk (w : World) (T : Cws w) (c : Int) (hcw : (Lit.int .i64 c).wf = true) (ao : Option Addr) (n cap : Nat) (l : List Int) (h : Sl .i64 w ao n cap l) (hlw : ∀ z ∈ l, (Lit.int .i64 z).wf = true) (hc : cap * 8 ≤ 140737488351232) (bo : Option Addr) (m cap' : Nat) (A : Nat → Option Addr) (N C : Nat → Nat) (ds : List (List Int)) (hd : Rd w bo m cap' A N C ds) (hc' : cap' ≤ 9223372036854775807) (nx : Int) (hnx : (Lit.int .i64 nx).wf = true) (pv : Int) (hpv : (Lit.int .i64 pv).wf = true) (yo : Option Addr) (ny yc : Nat) (ys : List Int) (hy : Sl .u8 w yo ny yc ys) (hyw : ∀ z ∈ ys, (Lit.int .u8 z).wf = true) (hyc : yc * 1 ≤ 140737488351232) :
    Calls Tryd.prog 5 #[.int .i64 c, .slice ao n cap, .slice bo m cap', .int .i64 nx, .int .i64 pv, .slice yo ny yc] w fun e w' => e = .returned (.bool true) ∧ Below w.heap.size w w' := by
  have hl := h.len
  have hdl := hd.len
  have hyr := hy.room
  have hm : m ≤ 9223372036854775807 := by have := hd.room; omega
  have cM := smallS_any w T
  have hyb : Bytes ys := bytes_wf hyw
  clear hcw hlw hnx hpv hyw
  by_cases hF : FewS ds
  · have cF : ∀ w1, Below w.heap.size w w1 → Calls Tryd.prog 9 #[.slice bo m cap'] w1 fun e w' => e = .returned (.bool true) ∧ w1 = w' := fun w1 hb => (by have := fewS_rd bo m cap' A N C ds w1 (hd.below hb) hm; rwa [decide_eq_true hF] at this)
    by_cases h60 : n ≤ 60
    · have h60' : ¬ ((60 : Int) < (n : Int)) := by omega
      by_cases hR : SlbOk c l ds nx pv
      · obtain ⟨r1, r2, r3, r4, r5, r6⟩ := rd_sw hR
        obtain ⟨s1, s2, s3, s4, s5, s6⟩ := rs_t r6
        rw [r1] at s1
        rw [r2] at s2
        rw [r3] at s3
        rw [r4] at s4
        rw [r5] at s5
        have Hmn : Hid (m = n) := hid (by have := hR.2.2.1; omega)
        have HFT : Hid (∀ i, i < n → (da ds i).length ≤ wB8 c) := hid (fun i hi => hR.2.2.2.2.2 i (by omega))
        have h16 : 16 ≤ wB8 c ∧ wB8 c ≤ 120 := by have := cB_in (hR.1.2.ct (i := 0) hR.2.1); omega
        have cW : ∀ w1, Below w.heap.size w w1 → Calls Tryd.prog 11 #[.int .i64 c, .slice ao n cap, .slice bo m cap', .int .i64 nx, .int .i64 pv] w1 fun e w' => ∃ xo xm xc, e = .returned (.tuple #[.slice xo xm xc, .int .i64 0]) ∧ Sl .u8 w' xo xm xc (swL c l ds nx pv) ∧ xm = 256 ∧ Below w1.heap.size w1 w' := fun w1 hb => by
          have := swrite_rd c ao n cap l bo m cap' A N C ds nx pv w1 (h.below hb) (hd.below hb) (by omega) hm (T.kept hb)
          rw [(sw_t hR).1] at this
          exact this.mono fun e w' ⟨xo, xm, xc, q1, q2, q3⟩ => ⟨xo, xm, xc, q1, q2.sl, by have := q2.len; rw [← this]; exact r6.1, q3⟩
        have HRd : Hid (∀ w3 xo xc, Below w.heap.size w w3 → Sl .u8 w3 xo 256 xc (swL c l ds nx pv) → Calls Tryd.prog 17 #[.slice xo 256 xc] w3 fun e w' => ∃ co cc dt dc A N C, e = .returned (.tuple #[.int .i64 c, .slice co n cc, .slice dt m dc, .int .i64 nx, .int .i64 pv, .bool true]) ∧ Own .i64 3 w3.heap.size w' co n cc l ∧ OwR w3.heap.size w' dt m dc A N C (ds.map (pdD c)) ∧ Below w3.heap.size w3 w') := hid (fun w3 xo xc hb h1 => by
          have hby : Bytes (swL c l ds nx pv) := swL_bytes (fun i hi => hd.bytes i (by have := Hmn.out; omega))
          refine (sread_own xo 256 xc _ w3 h1 hby (by omega) (T.kept hb)).mono ?_
          rw [s1, s2, s3, s4, s5, s6]
          rintro e w' ⟨co, cm, cc, dt, dm, dc, A, N, C, rfl, p1, p2, p3⟩
          obtain rfl : cm = n := by have := p1.len; omega
          obtain rfl : dm = m := by have := p2.len; rw [List.length_map] at this; omega
          exact ⟨co, cc, dt, dc, A, N, C, rfl, p1, p2, p3⟩)
        have HSm : Hid (∀ w4 co cc, Below w.heap.size w w4 → Sl .i64 w4 co n cc l → Calls Tryd.prog 19 #[.slice co n cc, .slice ao n cap] w4 fun e w' => e = .returned (.bool true) ∧ Below w4.heap.size w4 w') := hid (fun w4 co cc hb h1 => by
          have := same_any co n cc l ao n cap l w4 h1 (h.below hb) (by omega) (by omega)
          rwa [show (l == l) = true by simp] at this)
        have e0 : ((0 : Int) == 0) = true := rfl
        have e1 : (c != c) = false := by simp
        have e2 : ((m : Int) != (m : Int)) = false := by simp
        have e3 : (nx != nx) = false := by simp
        have e4 : (pv != pv) = false := by simp
        clear hF hR r1 r2 r3 r4 r5 r6 s1 s2 s3 s4 s5 s6
        generalize swL c l ds nx pv = SW at *
        go_enter Tryd.func5, Tryd.ntmps5
        go_wp2_with (first
          | (go_at_call 8; with_reducible refine cM.mono ?_; rintro e w1 ⟨rfl, hb1⟩)
          | (go_at_call 9; with_reducible refine (cF w1 hb1).mono ?_; rintro e w2 ⟨rfl, rfl⟩)
          | (go_at_call 11; with_reducible refine (cW w1 hb1).mono ?_; rintro e w3 ⟨xo, xm, xc, rfl, k1, rfl, hb3⟩; have hb13 := next hb1 hb3; have cR1 := HRd.out w3 xo xc hb13 k1; clear cW k1)
          | (go_at_call 17; with_reducible refine cR1.mono ?_; rintro e w4 ⟨co, cc, dt, dc, A4, N4, C4, rfl, p1, p2, hb4⟩; have hb14 := next hb13 hb4; have cS1 := HSm.out w4 co cc hb14 p1.sl; have P2 := hid p2; clear cR1 p1 p2)
          | (go_at_call 19; with_reducible refine cS1.mono ?_; rintro e w5 ⟨rfl, hb5⟩; have hb15 := next hb14 hb5; clear cS1))
        clear cM cF HRd HSm
        go_loopw [23] (fun s wr => ∃ k : Nat, k ≤ m ∧ s = .int .i64 k ∧ Below w5.heap.size w5 wr) (fun s _ => m - (intOf s).toNat)
        case atStart => exact ⟨0, Nat.zero_le _, rfl, Below.refl _ _⟩
        case round =>
          obtain ⟨k, hk, rfl, hbr⟩ := hrel
          have hbrw := next hb15 hbr
          by_cases hlt : k < m
          · obtain ⟨b2, off2, rfl, _, _⟩ := hd.here (by omega)
            have hkmi : (k : Int) < (m : Int) := by omega
            have c3 := hd.cell hbrw hlt
            have hb4r := next hb5 hbr
            have R4 := P2.out.below hb4r
            obtain ⟨dg, dcc, hvd⟩ := own_shape R4.row (by omega)
            simp only [Value.slice.injEq] at hvd
            obtain ⟨rfl, _, rfl⟩ := hvd
            have c4 := R4.row.cellAt k (by omega)
            have c4' : wr.cell? ⟨dg, k, none⟩ = some (.slice (A4 k) (N4 k) (C4 k)) := by rw [c4]; simp [hlt, sliV]
            have hrow := (hd.row k hlt)
            have hrl := hrow.len
            have hft := HFT.out k (by have := Hmn.out; omega)
            have hown := P2.out.own k hlt
            rw [da_map _ (by omega)] at hown
            have hol := hown.len
            rw [pdD_len hft] at hol
            obtain ⟨q3, q4⟩ := pd_two hft
            obtain ⟨g4, cc4, hv4⟩ := own_shape hown.row (by omega)
            simp only [Value.slice.injEq] at hv4
            obtain ⟨ea, _, ec⟩ := hv4
            rw [ea] at c4' hown
            have hcap4 := hown.cap_le
            have hdcl : m ≤ dc := by
              rcases R4.row.2 with ⟨hv, hn⟩ | ⟨g', cap'', cur, hv, hg, hh, hc2, _⟩
              · cases hv
              · simp only [Value.slice.injEq] at hv
                obtain ⟨_, _, rfl⟩ := hv
                exact hc2
            have hslr : ∀ q, Sl .u8 (wr.drewN q) (some ⟨g4, 0, none⟩) (N4 k) (C4 k) (pdD c (da ds k)) := fun q => hown.sl.below (below_drewN hb4r q)
            have t1 : ∀ q, (convert 26 9 (.slice (some ⟨g4, 0, none⟩) (N k) (C4 k))).run Tryd.prog (wr.drewN q) = .ok (.string (strOfNums (da ds k))) (wr.drewN q) := fun q => by
              have := (hslr q).pre (j := N k) (by omega)
              rw [← hrl, q3, hrl] at this
              exact this.text Tryd.underlying26 Tryd.underlying5 Tryd.underlying9
            have t2 : ∀ q, (convert 26 9 (.slice (A k) (N k) (C k))).run Tryd.prog (wr.drewN q) = .ok (.string (strOfNums (da ds k))) (wr.drewN q) := fun q => (hrow.below (below_drewN hbrw q)).text Tryd.underlying26 Tryd.underlying5 Tryd.underlying9
            have cZ : ∀ q, Calls Tryd.prog 21 #[.slice (if C4 k = N k then some ⟨g4, 0, none⟩ else some ⟨g4, N k, none⟩) (N4 k - N k) (C4 k - N k)] (wr.drewN q) fun e w' => e = .returned (.bool true) ∧ wr.drewN q = w' := fun q => by
              by_cases hcn : C4 k = N k
              · rw [if_pos hcn]
                have e1 : N4 k - N k = 0 := by omega
                have e2 : C4 k - N k = 0 := by omega
                rw [e1, e2]
                exact zero_any _ 0 0 [] _ (Sl.nul _ (by simp)) (by omega)
              · rw [if_neg hcn]
                have := zero_any _ _ _ _ _ ((hslr q).post (j := N k) (by omega)) (by omega)
                rw [Nat.zero_add, ← hrl, q4, hrl] at this
                exact this
            have d2 : decide ((N4 k : Int) < (N k : Int)) = false := decide_eq_false (by omega)
            have d2' : ¬ ((N4 k : Int) < (N k : Int)) := by omega
            have d3 : N k ≤ C4 k := by omega
            have d4 : N k ≤ N4 k := by omega
            have d5 : (N k : Int) ≤ (N4 k : Int) := by omega
            have Hbr := hid hbr
            clear hslr hown hrow hrl hol q3 q4 ea ec hcap4 h hd P2 hy T Hmn hyb R4 c4 hft HFT
            generalize strOfNums (da ds k) = tx at *
            generalize A k = ak at *
            generalize N k = nk at *
            generalize C k = ck at *
            generalize A4 k = a4 at *
            generalize N4 k = n4 at *
            generalize C4 k = cq at *
            have hss : (tx.toList == tx.toList) = true := by simp
            by_cases hcn : cq = nk
            · subst hcn
              simp only [if_true, Nat.sub_self] at cZ
              go_wp2
              go_quiet (first | (go_at_call 21; with_reducible refine quiet_same (cZ _)))
              go_wp2
              go_roundw
              case rel => exact ⟨k + 1, by omega, by go_num, below_drewN Hbr.out _⟩
              case measure => simp [intOf]; omega
            · simp only [if_neg hcn] at cZ
              go_wp2
              go_quiet (first | (go_at_call 21; with_reducible refine quiet_same (cZ _)))
              go_wp2
              go_roundw
              case rel => exact ⟨k + 1, by omega, by go_num, below_drewN Hbr.out _⟩
              case measure => simp [intOf]; omega
          · obtain rfl : k = m := by omega
            have hki : ¬ ((k : Int) < (k : Int)) := by omega
            clear h hd P2 Hmn HFT
            by_cases hH : RdS ys
            · obtain ⟨e1, e2, e3, e4, e5, e6⟩ := rs_t hH
              have hyl := hy.len
              have hrB := rd_bytes hyb
              obtain ⟨f1, f2, f3⟩ := rd_few ys
              have cR2 := sread_own yo ny yc ys wr (hy.below hbrw) hyb (by omega) (T.kept hbrw)
              have HSW : Hid (swE (rdC ys) (rdL' ys) (rdD ys) (rdN ys) (rdP ys) = 0 ∧ swL (rdC ys) (rdL' ys) (rdD ys) (rdN ys) (rdP ys) = ys) := hid (by rw [e1, e2, e3, e4, e5]; exact ⟨swE_0.2 hH.2.1, hH.2.2⟩)
              have HW2 : Hid (∀ w5 co cm cc dt dm dc A N C, Below w.heap.size w w5 → Own .i64 3 wr.heap.size w5 co cm cc (rdL' ys) → OwR wr.heap.size w5 dt dm dc A N C (rdD ys) → Calls Tryd.prog 11 #[.int .i64 (rdC ys), .slice co cm cc, .slice dt dm dc, .int .i64 (rdN ys), .int .i64 (rdP ys)] w5 fun e w' => ∃ xo xm xc, e = .returned (.tuple #[.slice xo xm xc, .int .i64 0]) ∧ Sl .u8 w' xo xm xc ys ∧ Below w5.heap.size w5 w') := hid (fun w5 co cm cc dt dm dc A N C hb h1 h2 => by
                have hl1 := h1.len
                have hl2 := h2.len
                have := swrite_rd (rdC ys) co cm cc (rdL' ys) dt dm dc A N C (rdD ys) (rdN ys) (rdP ys) w5 h1.sl (h2.rd (fun i hi => hrB i (by omega))) (by omega) (by omega) (T.kept hb)
                rw [HSW.out.1, HSW.out.2] at this
                exact this.mono fun e w' ⟨xo, xm, xc, q1, q2, q3⟩ => ⟨xo, xm, xc, q1, q2.sl, q3⟩)
              rw [e6] at cR2
              have Hy := hid hy
              have tx : ∀ (w' : World) (a : Option Addr) (n c : Nat), Sl .u8 w' a n c ys → (convert 26 9 (.slice a n c)).run Tryd.prog w' = .ok (.string (strOfNums ys)) w' := fun w' a n c h => h.text Tryd.underlying26 Tryd.underlying5 Tryd.underlying9
              have Hl := hid hbrw
              generalize strOfNums ys = sy at *
              have hss : (sy.toList == sy.toList) = true := by simp
              generalize rdC ys = RC at *
              generalize rdN ys = RN at *
              generalize rdP ys = RP at *
              generalize rdL' ys = RL at *
              generalize rdD ys = RD at *
              clear hbrw hy T hH hyb e1 e2 e3 e4 e5 e6 hrB HSW f1 f2 f3
              go_wp2_with (first
                | (go_at_call 17; with_reducible refine cR2.mono ?_; rintro e w5 ⟨co5, cm5, cc5, dt5, dm5, dc5, A5, N5, C5, rfl, p1, p2, hb5⟩; have hb5w := next Hl.out hb5; have cW2 := HW2.out w5 co5 cm5 cc5 dt5 dm5 dc5 A5 N5 C5 hb5w p1 p2; clear p1 p2)
                | (go_at_call 11; with_reducible refine cW2.mono ?_; rintro e w6 ⟨xo6, xm6, xc6, rfl, p4, hb6⟩; have hb6w := next hb5w hb6; have t1 := tx w6 _ _ _ p4; have t2 := tx w6 _ _ _ (Hy.out.below hb6w); clear p4))
              go_ret
              exact ⟨rfl, hb6w⟩
            · obtain ⟨e1, e2, e3, e4, e5, e6⟩ := rs_f hH
              have cR2 := sread_own yo ny yc ys wr (hy.below hbrw) hyb (by have := hy.room; omega) (T.kept hbrw)
              rw [e1, e2, e3, e4, e5, e6] at cR2
              have Hl := hid hbrw
              clear hbrw hy T hH hyb e1 e2 e3 e4 e5 e6
              go_wp2_with (first
                | (go_at_call 17; with_reducible refine cR2.mono ?_; rintro e w5 ⟨co5, cm5, cc5, dt5, dm5, dc5, A5, N5, C5, rfl, p1, p2, hb5⟩; have hb5w := next Hl.out hb5; have z1 := p1.len; have z2 := p2.len; simp only [List.length_nil] at z1 z2; subst z1; subst z2; clear p1 p2))
              go_ret
              exact ⟨rfl, hb5w⟩
      · have cW : ∀ w1, Below w.heap.size w w1 → Calls Tryd.prog 11 #[.int .i64 c, .slice ao n cap, .slice bo m cap', .int .i64 nx, .int .i64 pv] w1 fun e w' => ∃ xo xm xc, e = .returned (.tuple #[.slice xo xm xc, .int .i64 1]) ∧ Below w1.heap.size w1 w' := fun w1 hb => by
          have := swrite_rd c ao n cap l bo m cap' A N C ds nx pv w1 (h.below hb) (hd.below hb) (by omega) hm (T.kept hb)
          rw [(sw_f hR).1] at this
          exact this.mono fun e w' ⟨xo, xm, xc, q1, q2, q3⟩ => ⟨xo, xm, xc, q1, q3⟩
        have e0 : ((1 : Int) == 0) = false := rfl
        clear hF hR
        by_cases hH : RdS ys
        · obtain ⟨e1, e2, e3, e4, e5, e6⟩ := rs_t hH
          have hrB := rd_bytes hyb
          obtain ⟨f1, f2, f3⟩ := rd_few ys
          have cR2 : ∀ w3, Below w.heap.size w w3 → _ := fun w3 hb => sread_own yo ny yc ys w3 (hy.below hb) hyb (by omega) (T.kept hb)
          have HSW : Hid (swE (rdC ys) (rdL' ys) (rdD ys) (rdN ys) (rdP ys) = 0 ∧ swL (rdC ys) (rdL' ys) (rdD ys) (rdN ys) (rdP ys) = ys) := hid (by rw [e1, e2, e3, e4, e5]; exact ⟨swE_0.2 hH.2.1, hH.2.2⟩)
          have HW2 : Hid (∀ w3 w5 co cm cc dt dm dc A N C, Below w.heap.size w w5 → Own .i64 3 w3 w5 co cm cc (rdL' ys) → OwR w3 w5 dt dm dc A N C (rdD ys) → Calls Tryd.prog 11 #[.int .i64 (rdC ys), .slice co cm cc, .slice dt dm dc, .int .i64 (rdN ys), .int .i64 (rdP ys)] w5 fun e w' => ∃ xo xm xc, e = .returned (.tuple #[.slice xo xm xc, .int .i64 0]) ∧ Sl .u8 w' xo xm xc ys ∧ Below w5.heap.size w5 w') := hid (fun w3 w5 co cm cc dt dm dc A N C hb h1 h2 => by
            have hl1 := h1.len
            have hl2 := h2.len
            have := swrite_rd (rdC ys) co cm cc (rdL' ys) dt dm dc A N C (rdD ys) (rdN ys) (rdP ys) w5 h1.sl (h2.rd (fun i hi => hrB i (by omega))) (by omega) (by omega) (T.kept hb)
            rw [HSW.out.1, HSW.out.2] at this
            exact this.mono fun e w' ⟨xo, xm, xc, q1, q2, q3⟩ => ⟨xo, xm, xc, q1, q2.sl, q3⟩)
          rw [e6] at cR2
          have Hy := hid hy
          have tx : ∀ (w' : World) (a : Option Addr) (n c : Nat), Sl .u8 w' a n c ys → (convert 26 9 (.slice a n c)).run Tryd.prog w' = .ok (.string (strOfNums ys)) w' := fun w' a n c h => h.text Tryd.underlying26 Tryd.underlying5 Tryd.underlying9
          generalize strOfNums ys = sy at *
          have hss : (sy.toList == sy.toList) = true := by simp
          generalize rdC ys = RC at *
          generalize rdN ys = RN at *
          generalize rdP ys = RP at *
          generalize rdL' ys = RL at *
          generalize rdD ys = RD at *
          clear h hd hy T hH hyb e1 e2 e3 e4 e5 e6 hrB HSW f1 f2 f3
          go_enter Tryd.func5, Tryd.ntmps5
          go_wp2_with (first
            | (go_at_call 8; with_reducible refine cM.mono ?_; rintro e w1 ⟨rfl, hb1⟩)
            | (go_at_call 9; with_reducible refine (cF w1 hb1).mono ?_; rintro e w2 ⟨rfl, rfl⟩)
            | (go_at_call 11; with_reducible refine (cW w1 hb1).mono ?_; rintro e w3 ⟨xo, xm, xc, rfl, hb3⟩; have hb13 := next hb1 hb3; have cR3 := cR2 w3 hb13; clear cW)
            | (go_at_call 17; with_reducible refine cR3.mono ?_; rintro e w5 ⟨co5, cm5, cc5, dt5, dm5, dc5, A5, N5, C5, rfl, p1, p2, hb5⟩; have hb5w := next hb13 hb5; have cW2 := HW2.out _ w5 co5 cm5 cc5 dt5 dm5 dc5 A5 N5 C5 hb5w p1 p2; clear p1 p2 cR3)
            | (go_at_call 11; with_reducible refine cW2.mono ?_; rintro e w6 ⟨xo6, xm6, xc6, rfl, p4, hb6⟩; have hb6w := next hb5w hb6; have t1 := tx w6 _ _ _ p4; have t2 := tx w6 _ _ _ (Hy.out.below hb6w); clear p4))
          go_ret
          exact ⟨rfl, hb6w⟩
        · obtain ⟨e1, e2, e3, e4, e5, e6⟩ := rs_f hH
          have cR2 : ∀ w3, Below w.heap.size w w3 → _ := fun w3 hb => sread_own yo ny yc ys w3 (hy.below hb) hyb (by omega) (T.kept hb)
          rw [e1, e2, e3, e4, e5, e6] at cR2
          clear h hd hy T hH hyb e1 e2 e3 e4 e5 e6
          go_enter Tryd.func5, Tryd.ntmps5
          go_wp2_with (first
            | (go_at_call 8; with_reducible refine cM.mono ?_; rintro e w1 ⟨rfl, hb1⟩)
            | (go_at_call 9; with_reducible refine (cF w1 hb1).mono ?_; rintro e w2 ⟨rfl, rfl⟩)
            | (go_at_call 11; with_reducible refine (cW w1 hb1).mono ?_; rintro e w3 ⟨xo, xm, xc, rfl, hb3⟩; have hb13 := next hb1 hb3; have cR3 := cR2 w3 hb13; clear cW)
            | (go_at_call 17; with_reducible refine cR3.mono ?_; rintro e w5 ⟨co5, cm5, cc5, dt5, dm5, dc5, A5, N5, C5, rfl, p1, p2, hb5⟩; have hb5w := next hb13 hb5; have z1 := p1.len; have z2 := p2.len; simp only [List.length_nil] at z1 z2; subst z1; subst z2; clear p1 p2 cR3))
          go_ret
          exact ⟨rfl, hb5w⟩
    · have h60' : (60 : Int) < (n : Int) := by omega
      clear h hd hF hy
      go_enter Tryd.func5, Tryd.ntmps5
      go_wp2_with (first
        | (go_at_call 8; with_reducible refine cM.mono ?_; rintro e w1 ⟨rfl, hb1⟩)
        | (go_at_call 9; with_reducible refine (cF w1 hb1).mono ?_; rintro e w2 ⟨rfl, rfl⟩))
      go_ret
      exact ⟨rfl, hb1⟩
  · have cF : ∀ w1, Below w.heap.size w w1 → Calls Tryd.prog 9 #[.slice bo m cap'] w1 fun e w' => e = .returned (.bool false) ∧ w1 = w' := fun w1 hb => (by have := fewS_rd bo m cap' A N C ds w1 (hd.below hb) hm; rwa [decide_eq_false hF] at this)
    clear h hd hF hy
    go_enter Tryd.func5, Tryd.ntmps5
    go_wp2_with (first
      | (go_at_call 8; with_reducible refine cM.mono ?_; rintro e w1 ⟨rfl, hb1⟩)
      | (go_at_call 9; with_reducible refine (cF w1 hb1).mono ?_; rintro e w2 ⟨rfl, rfl⟩))
    go_ret
    exact ⟨rfl, hb1⟩
end Go.Proofs.YtfnnelkipdajiaaDoor
