/- 'SlabWrites' walked: what is written is the document's. -/
import Derived.Test.YtfnnelkipdajiaaDoorMsB
import Derived.Test.YtfnnelkipdajiaaDoorMhA
import Derived.BigQuiet
namespace Go.Proofs.YtfnnelkipdajiaaDoor
set_option maxRecDepth 100000
open Go.RowKit
set_option linter.unusedVariables false
set_option linter.unusedSimpArgs false
set_option maxRecDepth 100000

set_option maxHeartbeats 4000000 in
theorem slabWrites_walk (w : World) (T : Cws w) (c : Int) (hcw : (Lit.int .i64 c).wf = true) (ao : Option Addr) (n cap : Nat) (l : List Int) (h : Sl .i64 w ao n cap l) (hlw : ∀ z ∈ l, (Lit.int .i64 z).wf = true) (hc : cap * 8 ≤ 140737488351232) (bo : Option Addr) (m cap' : Nat) (A : Nat → Option Addr) (N C : Nat → Nat) (ds : List (List Int)) (hd : Rd w bo m cap' A N C ds) (hc' : cap' ≤ 9223372036854775807) (nx : Int) (hnx : (Lit.int .i64 nx).wf = true) (pv : Int) (hpv : (Lit.int .i64 pv).wf = true) :
    Calls Tryd.prog 3 #[.int .i64 c, .slice ao n cap, .slice bo m cap', .int .i64 nx, .int .i64 pv] w fun e w' => e = .returned (.bool true) ∧ Below w.heap.size w w' := by
  have hl := h.len
  have hdl := hd.len
  have hm : m ≤ 9223372036854775807 := by have := hd.room; omega
  have hnn : n ≤ 9223372036854775807 := by have := h.room; omega
  have cM := smallS_any w T
  clear hcw hlw hnx hpv
  by_cases hF : FewS ds
  · have cF : ∀ w1, Below w.heap.size w w1 → Calls Tryd.prog 9 #[.slice bo m cap'] w1 fun e w' => e = .returned (.bool true) ∧ w1 = w' := fun w1 hb => (by have := fewS_rd bo m cap' A N C ds w1 (hd.below hb) hm; rwa [decide_eq_true hF] at this)
    by_cases h60 : n ≤ 60
    · have h60' : ¬ ((60 : Int) < (n : Int)) := by omega
      have hm60 : m ≤ 60 := by have := hF.2; omega
      have hN : Hid (∀ i, i < m → (da ds i).length = N i ∧ N i ≤ 4096) := hid (fun i hi => by
        have h1 := hF.1 i (by omega)
        have h2 := (hd.row i hi).len
        exact ⟨h2, by omega⟩)
      obtain ⟨i0, hi0, hz0, hz1, hz2⟩ := info_parts Tryd.info26
      clear hF
      go_enter Tryd.func3, Tryd.ntmps3
      go_wp2_with (first
        | (go_at_call 8; with_reducible refine cM.mono ?_; rintro e w1 ⟨rfl, hb1⟩)
        | (go_at_call 9; with_reducible refine (cF w1 hb1).mono ?_; rintro e w2 ⟨rfl, rfl⟩; clear cF cM))
      have H60 := hid h60'
      go_loopw [13, 14] (fun s13 s14 wr => ∃ (k : Nat) (io : Option Addr) (ic : Nat) (G : Nat → Nat), k ≤ m ∧ s14 = .int .i64 k ∧ s13 = .slice io k ic ∧ Hid (LnD w.heap.size wr io k ic N G ds) ∧ Below w.heap.size w wr) (fun _ s14 _ => m - (intOf s14).toNat)
      case atStart => exact ⟨0, none, 0, fun _ => 0, Nat.zero_le _, rfl, rfl, hid (lnD_nil _ _ _ _ _), hb1⟩
      case round =>
        clear hb1
        obtain ⟨k, io, ic, G, hk, rfl, rfl, HL, hb⟩ := hrel
        by_cases hlt : k < m
        · obtain ⟨b2, off2, rfl, hbl2, _⟩ := hd.here (by omega)
          have c0 := hd.cell hb hlt
          have hki : (k : Int) < (m : Int) := by omega
          obtain ⟨n1, n2⟩ := hN.out k hlt
          have cL := lent_any (A k) (N k) (C k) (da ds k) wr ((hd.row k hlt).below hb) (by omega)
          have HX : Hid (∀ w2, Below wr.heap.size wr w2 → Lentd w2 wr.heap.size (da ds k) → Below wr.heap.size wr (w2.alloc (.cells #[.slice (some ⟨wr.heap.size, 0, none⟩) (N k) (N k + 1)] 26)) ∧ (w2.alloc (.cells #[.slice (some ⟨wr.heap.size, 0, none⟩) (N k) (N k + 1)] 26)).ownsRow w.heap.size 26 1 (.slice io k ic) k (rowsV N G k) ∧
              ∀ w3 bo c', (w2.alloc (.cells #[.slice (some ⟨wr.heap.size, 0, none⟩) (N k) (N k + 1)] 26)).grownBy w3 (Value.slice io k ic).ownBlock → w3.ownsRow w.heap.size 26 1 (.slice bo (k + 1) c') (k + 1) (rowsV N G k ++ [.slice (some ⟨wr.heap.size, 0, none⟩) (N k) (N k + 1)]) → LnD w.heap.size w3 bo (k + 1) c' N (upd G k wr.heap.size) ds ∧ Below w.heap.size w w3) := hid (fun w2 h1 h2 => by
            have hba : Below w2.heap.size w2 (w2.alloc (.cells #[.slice (some ⟨wr.heap.size, 0, none⟩) (N k) (N k + 1)] 26)) := (Below.refl _ _).alloc (Nat.le_refl _) _
            have hbb := next h1 hba
            have hrow := ownsRow_below HL.out.row hbb
            refine ⟨hbb, hrow, fun w3 bo c' hg ho => ⟨HL.out.next hbb (h2.below hba) n1 hb.size hg ho, ?_⟩⟩
            exact (next hb hbb).grown hg (Nat.le_trans hb.size hbb.size) (fun b e => (hrow.lt b e).1))
          have hk60 : (k + 1) * 24 ≤ 140737488355328 := by omega
          clear HL n1
          generalize A k = Ak at *
          generalize N k = Nk at *
          generalize C k = Ck at *
          go_wp2_with (first
            | (go_at_call 10; with_reducible refine cL.mono ?_; rintro e w2 ⟨rfl, L2, b2'⟩; obtain ⟨hbb, hrow, HNX⟩ := HX.out w2 b2' L2; have HR := hid hrow; have HB2 := hid hbb; have HN2 := hid HNX; clear hrow hbb HNX L2 cL HX)
            | (at_builtin; refine append_rows rfl (.tmp 44) (.tmp 50) rfl w.heap.size _ k _ rfl HR.out (some ⟨w2.heap.size, 0, none⟩) 1 1 [.slice (some ⟨wr.heap.size, 0, none⟩) Nk (Nk + 1)] rfl rfl ?u1 (by intro e; cases e) ?u2 hk60 ?u3 ?_))
          case u1 =>
            intro ad e j u hu
            cases e
            match j, hu with
            | 0, hu => simp at hu; subst hu; simp [Addr.add_lit, cell_of_row _ w2.heap.size 0 _ 26 (0, 0) (heap_alloc_new _ _)]
            | j + 1, hu => simp at hu
          case u2 =>
            intro u hu
            simp at hu
            subst hu
            rfl
          case u3 => exact Nat.le_trans hb.size HB2.out.size
          intro bo3 c3 w3 ho3 hg3
          obtain ⟨K1, K2⟩ := HN2.out w3 bo3 c3 hg3 ho3
          have HK1 := hid K1
          clear ho3 hg3 HN2 HR HB2 K1
          go_wp2
          go_roundw
          case rel => exact ⟨k + 1, bo3, c3, _, by omega, by go_num, rfl, HK1, K2⟩
          case measure => simp [intOf]; omega
        · obtain rfl : k = m := by omega
          have hkm : ¬ ((k : Int) < (k : Int)) := by omega
          have hby : ∀ i, i < k → Bytes (da ds i) := hd.bytes
          have hrd := HL.out.rd hdl hby (fun i hi => (hN.out i hi).2)
          have cW := swrite_rd c ao n cap l io k ic _ _ _ ds nx pv wr (h.below hb) hrd (by omega) hm (T.kept hb)
          have HV : Hid (∀ w2, Below w.heap.size w w2 → Calls Tryd.prog 12 #[.int .i64 c, .slice ao n cap, .slice bo k cap', .int .i64 nx, .int .i64 pv] w2 fun e w' => ∃ xo xm xc, e = .returned (.tuple #[.slice xo xm xc, .int .i64 (swE c l ds nx pv)]) ∧ Own .u8 5 w2.heap.size w' xo xm xc (swL c l ds nx pv) ∧ Below w2.heap.size w2 w') := hid (fun w2 hb2 => rwriteS_rd c ao n cap l bo k cap' A N C ds nx pv w2 (h.below hb2) (hd.below hb2) (by omega) hm)
          have HBI : Hid (∀ w8, Below w.heap.size w w8 → Calls Tryd.prog 15 #[.int .i64 c, .slice ao n cap] w8 fun e w' => e = .returned (.tuple #[.int .i64 (bzN c l), .int .i64 (bzE c l)]) ∧ Below w8.heap.size w8 w') := hid (fun w8 hb8 => sbits_sl c ao n cap l w8 (h.below hb8) (by omega) (T.kept hb8))
          have HBR : Hid (∀ w8, Below w.heap.size w w8 → Calls Tryd.prog 16 #[.int .i64 c, .slice ao n cap] w8 fun e w' => e = .returned (.tuple #[.int .i64 (bzN c l), .int .i64 (bzE c l)]) ∧ Below w8.heap.size w8 w') := hid (fun w8 hb8 => rbits_sl c ao n cap l w8 (h.below hb8) (by omega))
          generalize swE c l ds nx pv = er2 at *
          generalize swL c l ds nx pv = zs2 at *
          have Hd := hid hd
          have Hb := hid hb
          clear h hd T hrd hb hby hl
          go_wp2_with (first
            | (go_at_call 11; with_reducible refine cW.mono ?_; rintro e w2 ⟨xo, M2, xc, rfl, q2, b2⟩; have hb2 := next Hb.out b2; have cV := HV.out w2 hb2; have Q2 := hid q2; have B2 := hid b2; clear q2 b2 cW HV)
            | (go_at_call 12; with_reducible refine cV.mono ?_; rintro e w3 ⟨yo, M3, yc, rfl, p2, b3⟩; have hb3 := next hb2 b3; have P2 := hid p2.sl; have B3 := hid b3; clear p2 b3 cV))
          have HL3 : Hid (LnD w.heap.size w3 io k ic N G ds) := hid ((HL.out.below B2.out).below B3.out)
          have HGW : Hid (∀ i, i < k → G i < wr.heap.size) := hid (fun i hi => (HL.out.lent i hi).lt)
          have HRW : Hid (Rowd w3 w.heap.size xo M2 xc (blk xo) ∧ ∀ i, i < k → 0 < xc → G i ≠ blk xo) := hid ⟨(Q2.out.below B3.out).rowb.mono Hb.out.size, fun i hi hc => by
            have h1 := HGW.out i hi
            have h2 := (Q2.out.rowb.spot hc).2.1
            omega⟩
          have HX3 : Hid (Sl .u8 w3 xo M2 xc zs2) := hid (Q2.out.below B3.out).sl
          clear HL hkm
          go_loopw [19] (fun s wx => ∃ j : Nat, j ≤ k ∧ s = .int .i64 j ∧ Below w3.heap.size w3 wx) (fun s _ => k - (intOf s).toNat)
          case atStart => exact ⟨0, Nat.zero_le _, rfl, Below.refl _ _⟩
          case round =>
            obtain ⟨j, hj, rfl, bx⟩ := hrel
            by_cases hlj : j < k
            · have hji : (j : Int) < (k : Int) := by omega
              have hbx := next hb3 bx
              obtain ⟨b5, off5, rfl, _, _⟩ := Hd.out.here (by omega)
              have x1 := Hd.out.cell hbx hlj
              obtain ⟨g6, rfl⟩ := HL3.out.shape (by omega)
              have x2 := (HL3.out.below bx).row.cellAt j (by omega)
              rw [rowsV_at hlj] at x2
              simp only [rowV] at x2
              obtain ⟨n1, n2⟩ := hN.out j hlj
              have cK : ∀ nn, Calls Tryd.prog 13 #[.slice (some ⟨G j, 0, none⟩) (N j) (N j + 1), .slice (A j) (N j) (C j)] (wr.drewN nn) fun e w' => e = .returned (.bool true) ∧ wr.drewN nn = w' := fun nn => kept_any (G j) (A j) (N j) (C j) (da ds j) _ (((HL3.out.below bx).lent j hlj).below (below_drewN (Below.refl _ _) nn)) ((Hd.out.row j hlj).below (below_drewN hbx nn)) (by omega)
              have Hbx := hid bx
              have hic : k ≤ ic := by
                have := HL3.out.rd hdl (fun i hi => Hd.out.bytes i hi) (fun i hi => (hN.out i hi).2)
                exact this.room
              clear hbx bx n1
              generalize A j = Aj at *
              generalize N j = Nj at *
              generalize C j = Cj at *
              generalize G j = Gj at *
              go_wp2
              go_quiet (first | (go_at_call 13; with_reducible refine quiet_same (cK _)))
              go_wp2
              go_roundw
              case rel => exact ⟨j + 1, by omega, by go_num, below_drewN Hbx.out _⟩
              case measure => simp [intOf]; omega
            · obtain rfl : j = k := by omega
              have hkm : ¬ ((j : Int) < (j : Int)) := by omega
              have t1 := (HX3.out.below bx).text (P := Tryd.prog) Tryd.underlying26 Tryd.underlying5 Tryd.underlying9
              have t2 := (P2.out.below bx).text (P := Tryd.prog) Tryd.underlying26 Tryd.underlying5 Tryd.underlying9
              have HM : Hid (∀ w5, Below w3.heap.size w3 w5 → ((w5.alloc (.cells #[] 26)).ownsRow w5.heap.size 26 1 (.slice (some ⟨w5.heap.size, 0, none⟩) 0 0) 0 [] ∧ LnD w.heap.size (w5.alloc (.cells #[] 26)) io j ic N G ds) ∧
                  ∀ w6 r6 c6, w6.ownsRow w5.heap.size 26 1 (.slice r6 j c6) j (rowsV N G j) → (w5.alloc (.cells #[] 26)).grownBy w6 (some w5.heap.size) → ((w6.alloc (.cells #[.slice xo M2 xc] 26)).ownsRow w5.heap.size 26 1 (.slice r6 j c6) j (rowsV N G j) ∧ w5.heap.size ≤ (w6.alloc (.cells #[.slice xo M2 xc] 26)).heap.size) ∧
                  ∀ w7 r7 c7, w7.ownsRow w5.heap.size 26 1 (.slice r7 (j + 1) c7) (j + 1) (rowsV N G j ++ [.slice xo M2 xc]) → (w6.alloc (.cells #[.slice xo M2 xc] 26)).grownBy w7 (Value.slice r6 j c6).ownBlock → Calls Tryd.prog 14 #[.slice r7 (j + 1) c7] w7 fun e w' => e = .returned (.bool true) ∧ Below w.heap.size w w') := hid (fun w5 b5 => by
                have hb5 := next hb3 b5
                have ba : Below w5.heap.size w5 (w5.alloc (.cells #[] 26)) := (Below.refl _ _).alloc (Nat.le_refl _) _
                refine ⟨⟨World.ownsRow_made w5 #[] 0 (Nat.le_refl _) (Nat.zero_le _) rfl, (HL3.out.below b5).below ba⟩, fun w6 r6 c6 ho6 hg6 => ?_⟩
                have b6 : Below w5.heap.size w5 w6 := ba.grown hg6 ba.size (fun b e => by cases e; exact Nat.le_refl _)
                have bc : Below w6.heap.size w6 (w6.alloc (.cells #[.slice xo M2 xc] 26)) := (Below.refl _ _).alloc (Nat.le_refl _) _
                have bd := next b6 bc
                have hr6 := ownsRow_below ho6 bc
                refine ⟨⟨hr6, bd.size⟩, fun w7 r7 c7 ho7 hg7 => ?_⟩
                have b7 : Below w5.heap.size w5 w7 := bd.grown hg7 bd.size (fun b e => (hr6.lt b e).1)
                have hl7 := (HL3.out.below b5).below b7
                have hb7 := next hb5 b7
                refine (owned_lent (B := w.heap.size) (by omega) (ownsRow_mono ho7 hb5.size) hl7.lent hl7.up hl7.apart hl7.len (fun i hi => (hN.out i hi).2) ((HRW.out.1.below b5).below b7) HRW.out.2 hb7.size).mono ?_
                rintro e w' ⟨rfl, k8⟩
                exact ⟨rfl, hb7.trans k8⟩)
              have Bx := hid bx
              have hj60 : (0 + j) * 24 ≤ 140737488355328 := by omega
              have hj61 : (j + 1) * 24 ≤ 140737488355328 := by omega
              obtain ⟨⟨g1, g2⟩, HM2⟩ := HM.out wr bx
              have G1 := hid g1
              have G2 := hid g2
              have M2' := hid HM2
              clear g1 g2 HM2 HM bx HL3 HRW HX3 P2 Q2 Hd HGW
              generalize bzN c l = xn at *
              generalize bzE c l = lb at *
              generalize strOfNums zs2 = sy at *
              have hbz : wr.heap.size ≤ (wr.alloc (.cells #[] 26)).heap.size := (belowN wr _).size
              have hss : (sy.toList == sy.toList) = true := by simp
              have hee : (er2 == er2) = true := by simp
              have hee2 : (xn == xn) = true := by simp
              have hee3 : (lb == lb) = true := by simp
              go_wp2_with (first
                | (at_builtin; refine append_rows rfl (.tmp 92) (.tmp 93) rfl wr.heap.size _ 0 [] rfl G1.out io j ic (rowsV N G j) rfl (rowsV_len _ _ _) G2.out.cells.1 G2.out.cells.2 (rowsV_one _ _ _) hj60 hbz ?_))
              intro r6 c6 w6 ho6 hg6
              obtain ⟨⟨g3, g4⟩, HM3⟩ := M2'.out w6 r6 c6 ho6 hg6
              have G3 := hid g3
              have G4 := hid g4
              have M3 := hid HM3
              clear ho6 hg6 G1 G2 M2' g3 g4 HM3
              go_wp2_with (first
                | (at_builtin; refine append_rows rfl (.tmp 94) (.tmp 96) rfl wr.heap.size _ j _ rfl G3.out (some ⟨w6.heap.size, 0, none⟩) 1 1 [.slice xo M2 xc] rfl rfl (one_cell _) (by intro e; cases e) ?v2 hj61 G4.out ?_))
              case v2 =>
                intro u hu
                simp at hu
                subst hu
                rfl
              intro r7 c7 w7 ho7 hg7
              have cO := M3.out w7 r7 c7 ho7 hg7
              clear ho7 hg7 M3 G3 G4
              go_wp2_with (first
                | (go_at_call 14; with_reducible refine cO.mono ?_; rintro e w8 ⟨rfl, hb8⟩; have cA := HBI.out w8 hb8; clear cO)
                | (go_at_call 15; with_reducible refine cA.mono ?_; rintro e w9 ⟨rfl, b9⟩; have hb9 := next hb8 b9; have cB := HBR.out w9 hb9; clear cA b9)
                | (go_at_call 16; with_reducible refine cB.mono ?_; rintro e w10 ⟨rfl, b10⟩; have hb10 := next hb9 b10; clear cB))
              go_ret
              exact ⟨by simp, hb10⟩
    · have h60' : (60 : Int) < (n : Int) := by omega
      clear h hd hF
      go_enter Tryd.func3, Tryd.ntmps3
      go_wp2_with (first
        | (go_at_call 8; with_reducible refine cM.mono ?_; rintro e w1 ⟨rfl, hb1⟩)
        | (go_at_call 9; with_reducible refine (cF w1 hb1).mono ?_; rintro e w2 ⟨rfl, rfl⟩))
      go_ret
      exact ⟨rfl, hb1⟩
  · have cF : ∀ w1, Below w.heap.size w w1 → Calls Tryd.prog 9 #[.slice bo m cap'] w1 fun e w' => e = .returned (.bool false) ∧ w1 = w' := fun w1 hb => (by have := fewS_rd bo m cap' A N C ds w1 (hd.below hb) hm; rwa [decide_eq_false hF] at this)
    clear h hd hF
    go_enter Tryd.func3, Tryd.ntmps3
    go_wp2_with (first
      | (go_at_call 8; with_reducible refine cM.mono ?_; rintro e w1 ⟨rfl, hb1⟩)
      | (go_at_call 9; with_reducible refine (cF w1 hb1).mono ?_; rintro e w2 ⟨rfl, rfl⟩))
    go_ret
    exact ⟨rfl, hb1⟩
end Go.Proofs.YtfnnelkipdajiaaDoor
