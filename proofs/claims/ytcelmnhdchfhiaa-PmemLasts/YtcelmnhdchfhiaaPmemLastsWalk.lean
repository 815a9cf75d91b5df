/- 'PmemLasts': the walk. -/
import Derived.Test.YtcelmnhdchfhiaaLastsAid
namespace Go.Proofs.Ytcelmnhdchfhiaa
open Go.RowKit
set_option linter.unusedVariables false

set_option maxRecDepth 100000 in
set_option maxHeartbeats 4000000 in
theorem lasts_good (w : World) (a0 : Option Addr) (len0 cap0 : Nat) (z0 : List Int) (s0 : Sl .u8 w a0 len0 cap0 z0) (hby : Bytes z0) (hl2 : len0 ≤ 2048) (hnew : newOk len0 = true)
    (a1 : Option Addr) (len1 cap1 : Nat) (h91 : len1 ≤ 9223372036854775807) (D : Nat → ActD) (hA : ActsAt w a1 len1 D) (at_ : Int) (hat : Rg at_)
    (a3 : Option Addr) (len3 cap3 : Nat) (z3 : List Int) (s3 : Sl .u8 w a3 len3 cap3 z3) (hby3 : Bytes z3) (hl3 : len3 ≤ 2048) (hc3 : cap3 ≤ 9223372036854775807)
    (a4 : Option Addr) (len4 cap4 : Nat) (z4 : List Bool) (s4 : Slb w a4 len4 z4) (h94 : len4 ≤ 9223372036854775807) :
    Calls Try.prog 4 #[.slice a0 len0 cap0, .slice a1 len1 cap1, .int .i64 at_, .slice a3 len3 cap3, .slice a4 len4 cap4] w fun e w' => e = .returned (.bool true) ∧ Below w.heap.size w w' := by
  have hn1 : ¬ ((2048 : Int) < len0) := by omega
  have hn3 : ¬ ((2048 : Int) < len3) := by omega
  have hz0 := s0.len
  have hz3 := s3.len
  obtain ⟨N, hN⟩ : ∃ N, z0.length / 64 = N := ⟨_, rfl⟩
  have HNl : Hid (len0 = 64 * N) := hid (by
    have : len0 ≠ 0 ∧ len0 % 64 = 0 ∧ len0 / 64 ≤ 4096 := by simpa [newOk] using hnew
    omega)
  have hr3 : Rg (len3 : Int) := ⟨by omega, by omega⟩
  go_enter Try.func4, Try.ntmps4
  go_wp2_with (first
    | (go_at_call 8; with_reducible refine (small_any _).mono ?_; rintro e w1 ⟨rfl, hb1⟩; have s01 := s0.below hb1)
    | (go_at_call 10; with_reducible refine (new_good _ _ _ _ _ s01 hby hnew).mono ?_; rintro e w2 ⟨p, F0, rfl, hd0, hF0, hb2⟩; clear s01))
  have hb12 := next hb1 hb2
  have hG0 : ∀ j, F0 j → w.heap.size ≤ j := fun j hj => Nat.le_trans hb1.size (hF0 j hj)
  have hn0 : (St.new z0).n = N := hN
  clear hb1 hb2 hF0 s0 hby hN hnew
  go_loopw [14] (fun t wr => ∃ (k : Nat) (F : Nat → Prop) (S : St), k ≤ len1 ∧ t = .int .i64 k ∧ Dev wr F p S ∧ S.n = N ∧ (∀ j, F j → w.heap.size ≤ j) ∧ Below w.heap.size w wr) (fun t _ => len1 - (RowKit.intOf t).toNat)
  case atStart => exact ⟨0, F0, _, Nat.zero_le _, rfl, hd0, hn0, hG0, hb12⟩
  case round =>
    clear hd0 hn0 hG0 hb12
    obtain ⟨k, F, S, hk, rfl, hd, hSn, hG, hbl⟩ := hrel
    by_cases hlt : k < len1 ∧ k < 40
    · obtain ⟨b, off, rfl, hbw, hall⟩ := hA (by omega)
      have hAk := act_later' (hall k hlt.1) hbw hbl
      have hIn : ActIn w.heap.size wr (D k) := ⟨hAk.ok, (hall k hlt.1).ok.inn.bb, (hall k hlt.1).ok.inn.kb⟩
      obtain ⟨A, hAe⟩ : ∃ A, A = D k := ⟨_, rfl⟩
      rw [← hAe] at hAk hIn
      have j1 : (k : Int) < len1 := by omega
      have j2 : (k : Int) < 40 := by omega
      obtain ⟨c0, c1, c2, c3, c4, hok⟩ := hAk
      rw [Nat.mul_comm 5 k] at c0 c1 c2 c3 c4
      have hbm := hok.bm
      have hbr := hok.bs.room
      have hkl := hlt.1
      clear hall hA hAe hlt hok
      by_cases hb4 : 4096 < A.bl
      · have j3 : (4096 : Int) < A.bl := by omega
        go_wp2
        go_ret
        exact ⟨rfl, hbl⟩
      · have j3 : ¬ ((4096 : Int) < A.bl) := by omega
        have cA := do_any hd A hIn hG
        unfold actV at cA
        have hBr := hbl.size
        go_wp2_with (go_at_call 27; with_reducible refine cA.mono ?_; rintro e w4 ⟨rfl, F', d4, g4⟩)
        go_roundw
        case rel => exact ⟨k + 1, F', actS S A, by omega, by go_num, d4, (act_n S A).trans hSn, (fun j hj => by rcases g4.new j hj with h | h; exact hG j h; exact Nat.le_trans hBr h), hbl.trans (g4.off.below hG hBr)⟩
        case measure => simp [RowKit.intOf]; omega
    · have hgd : ¬ ((k : Int) < len1) ∨ ((k : Int) < len1 ∧ ¬ ((k : Int) < 40)) := by omega
      clear hA hlt
      rcases hgd with hg1 | ⟨hg1, hg2⟩
      all_goals
        go_upto_region 13 with fail
        go_cut [15] (fun c wx => ∃ (F : Nat → Prop) (T : St) (sure : Bool), c = .bool sure ∧ Kept3 w wx p N at_ z3 F T sure)
        case first =>
          have hBr := hbl.size
          have t3 := s3.below hbl
          have hok := hd.ok
          have hno : 0 < len3 → ∀ c, a3 = some c → ¬ F c.block := fun hp c hc hf => by
            obtain ⟨b3, o3, e3, l3, _⟩ := s3.here hp
            rw [hc] at e3
            cases e3
            have := hG _ hf
            simp only at this
            omega
          obtain ⟨E1, hE1⟩ : ∃ E1, stepE S at_ len3 = E1 := ⟨_, rfl⟩
          have cS := store_told hd at_ a3 len3 cap3 z3 hat t3 hby3 hc3 hno hE1
          have HS := @sure_all S hok at_ len3 z3 hz3
          have m1 := does_n (f := fun T => storeS T at_.toNat z3) (fun T => (soilTo_seen _ _ _).2.1) S at_ len3
          generalize Does (fun T => storeS T at_.toNat z3) S at_ len3 = S1 at *
          by_cases e1 : E1 = 0
          · obtain ⟨E2, hE2⟩ : ∃ E2, stepE S1 at_ len3 = E2 := ⟨_, rfl⟩
            have m2 := does_n (f := fun T => flushS T (lineA at_.toNat (len3 : Int).toNat) (lineB at_.toNat (len3 : Int).toNat)) (fun T => rfl) S1 at_ len3
            have cF := fun (w : World) (F : Nat → Prop) (hd : Dev w F p S1) => flush_told hd at_ len3 hat hr3 hE2
            generalize Does (fun T => flushS T (lineA at_.toNat (len3 : Int).toNat) (lineB at_.toNat (len3 : Int).toNat)) S1 at_ len3 = S2 at *
            by_cases e2 : E2 = 0
            · obtain ⟨E3, hE3⟩ : ∃ E3, stepE S2 0 0 = E3 := ⟨_, rfl⟩
              have m3 := does_n (f := fenceS) (fun T => rfl) S2 0 0
              have cN := fun (w : World) (F : Nat → Prop) (hd : Dev w F p S2) => fence_told hd hE3
              have HZ : Hid ((E3 == 0) = true → 0 ≤ at_ ∧ Sure (Does fenceS S2 0 0) at_.toNat z3) := hid (fun h => HS (hE1.trans e1) (hE2.trans e2) (hE3.trans (by simpa using h)))
              generalize Does fenceS S2 0 0 = S3 at *
              subst e1 e2
              clear HS hE1 hE2 hE3
              go_wp2_with (first
                | (go_at_call 16; with_reducible refine cS.mono ?_; rintro e w4 ⟨rfl, F', d4, g4⟩; have cF4 := cF w4 F' d4;
                   have hG4 : ∀ j, F' j → w.heap.size ≤ j := (fun j hj => (by rcases g4.new j hj with h | h; exact hG j h; exact Nat.le_trans hBr h)); have hb4 := hbl.trans (g4.off.below hG hBr); have hs4 := hb4.size)
                | (go_at_call 18; with_reducible refine cF4.mono ?_; rintro e w5 ⟨rfl, d5, g5⟩; have cN5 := cN w5 F' d5; have hb5 := hb4.trans (g5.off.below hG4 hs4); have hs5 := hb5.size)
                | (go_at_call 20; with_reducible refine cN5.mono ?_; rintro e w6 ⟨rfl, d6, g6⟩; have hb6 := hb5.trans (g6.off.below hG4 hs5)))
              go_meet
              exact ⟨F', S3, (E3 == 0), rfl, d6, m3.trans (m2.trans (m1.trans hSn)), hG4, hb6, HZ.out⟩
            · have e2' : (E2 == 0) = false := by simpa using e2
              subst e1
              clear HS hE1 hE2 e2
              go_wp2_with (first
                | (go_at_call 16; with_reducible refine cS.mono ?_; rintro e w4 ⟨rfl, F', d4, g4⟩; have cF4 := cF w4 F' d4;
                   have hG4 : ∀ j, F' j → w.heap.size ≤ j := (fun j hj => (by rcases g4.new j hj with h | h; exact hG j h; exact Nat.le_trans hBr h)); have hb4 := hbl.trans (g4.off.below hG hBr); have hs4 := hb4.size)
                | (go_at_call 18; with_reducible refine cF4.mono ?_; rintro e w5 ⟨rfl, d5, g5⟩; have hb5 := hb4.trans (g5.off.below hG4 hs4)))
              go_meet
              exact ⟨F', S2, false, rfl, d5, m2.trans (m1.trans hSn), hG4, hb5, fun h => by cases h⟩
          · have e1' : (E1 == 0) = false := by simpa using e1
            clear HS hE1 e1
            go_wp2_with (first
              | (go_at_call 16; with_reducible refine cS.mono ?_; rintro e w4 ⟨rfl, F', d4, g4⟩;
                 have hG4 : ∀ j, F' j → w.heap.size ≤ j := (fun j hj => (by rcases g4.new j hj with h | h; exact hG j h; exact Nat.le_trans hBr h)); have hb4 := hbl.trans (g4.off.below hG hBr)))
            go_meet
            exact ⟨F', S1, false, rfl, d4, m1.trans hSn, hG4, hb4, fun h => by cases h⟩
        case rest =>
          clear hd hG hbl hSn
          obtain ⟨F, T, sure, rfl, hd, hTn, hG, hbl, hsure⟩ := hcut
          have hok := hd.ok
          have hTl : T.seen.length = len0 := by rw [hok.len, hTn]; exact HNl.out.symm
          have cI := image_any hd
          rw [hTl] at cI
          have hno4 : 0 < len4 → ∀ c, a4 = some c → ¬ F c.block := fun hp c hc hf => by
            obtain ⟨b4, o4, e4, l4, _⟩ := s4.here hp
            rw [hc] at e4
            cases e4
            have := hG _ hf
            simp only at this
            omega
          have hUl : (crashS T z4).seen.length = len0 := by
            show (crashP T z4 (dirtyL T).length).length = _
            rw [crashP_len hok, hTn]; exact HNl.out.symm
          have hUi := lasts_crash hok z4
          have hUd := dirty_crash T z4
          have hline : ∀ q, q < N → lineAt (crashS T z4).seen q = lineAt (lasts T) q ∨ lineAt (crashS T z4).seen q = lineAt T.seen q := fun q hq => crash_line hok z4 _ (by rw [hTn]; exact hq)
          have hsr : sure = true → 0 ≤ at_ ∧ at_.toNat + len3 ≤ len0 ∧ ((crashS T z4).seen.drop at_.toNat).take len3 = z3 := fun h => by
            obtain ⟨q1, q2⟩ := hsure h
            have := q2.fit
            refine ⟨q1, by rw [hTn] at this; have := HNl.out; omega, ?_⟩
            have := sure_crash hok q2 z4 (dirtyL T).length
            rw [hz3] at this
            exact this
          have hbT := hok.byt
          have hbI := lasts_bytes hok
          have hbU : Bytes (crashS T z4).seen := crashP_bytes hok z4 _
          clear hsure
          have tA : True := trivial
          have tB : True := trivial
          have hBw := hbl.size
          go_wp2_with (first
            | (go_at_call 28; have _t := tA; with_reducible refine cI.mono ?_; rintro e w4 ⟨gI, kI, rfl, oI, hb4⟩; clear tA; have d4 := hd.below hb4; have cV := view_any d4; rw [hTl] at cV)
            | (go_at_call 29; have _t := tB; with_reducible refine cV.mono ?_; rintro e w5 ⟨gV, kV, rfl, oV, hb5⟩; clear tB; have d5 := d4.below hb5; have hb45 := next hb4 hb5; have hbl5 := hbl.trans (hb45.mono hBw); have cC := crash_all d5 a4 len4 cap4 z4 (s4.below hbl5) h94 hno4; have oI5 := oI.below hb5)
            | (go_at_call 24; with_reducible refine cC.mono ?_; rintro e w6 ⟨rfl, d6, g6⟩; have hs5 := hbl5.size; have hbl6 := hbl5.trans (g6.off.below hG hs5);
               have oI6 := oI5.off g6.off (fun c hc => (by cases hc; intro hf; have h1 := hd.bound _ hf; have h2 := oI.base; simp only at h1 h2; omega)); have oV6 := oV.off g6.off (fun c hc => (by cases hc; intro hf; have h1 := d4.bound _ hf; have h2 := oV.base; simp only at h1 h2; omega));
               have cI6 := image_any d6; rw [hUl, hUi] at cI6)
            | (go_at_call 28; with_reducible refine cI6.mono ?_; rintro e w7 ⟨gN, kN, rfl, oN, hb7⟩; have d7 := d6.below hb7; have cV7 := view_any d7; rw [hUl] at cV7; have oI7 := oI6.below hb7; have oV7 := oV6.below hb7)
            | (go_at_call 29; with_reducible refine cV7.mono ?_; rintro e w8 ⟨gW, kW, rfl, oW, hb8⟩; have d8 := d7.below hb8; have cDn := down_any d8; have cDi := dirty_any d8; rw [hUd] at cDi; have oN8 := oN.below hb8; have oI8 := oI7.below hb8; have oV8 := oV7.below hb8; have txN := oN8.sl.text (P := Try.prog) Try.underlying22 Try.underlying5 Try.underlying9; have txW := oW.sl.text (P := Try.prog) Try.underlying22 Try.underlying5 Try.underlying9)
            | (go_at_call 30; with_reducible refine cDn.mono ?_; rintro e w' ⟨rfl, rfl⟩)
            | (go_at_call 31; with_reducible refine cDi.mono ?_; rintro e w9 ⟨ao9, c9, rfl, o9, hb9⟩; have oN9 := oN8.below hb9; have oI9 := oI8.below hb9; have oV9 := oV8.below hb9))
          have hbl9 : Below w.heap.size w w9 := next (next (next hbl6 hb7) hb8) hb9
          have kkN := oN9.cap_le
          have kkI := oI9.cap_le
          have kkV := oV9.cap_le
          have t39 := s3.below hbl9
          clear oI oV oN oW oI5 oI6 oV6 oI7 oV7 oN8 oI8 oV8 o9 txN txW hd d4 d5 d6 d7 d8 cI cV cC cI6 cV7 cDn cDi hb4 hb5 hb7 hb8 hb9 hUi hUd
          generalize (crashS T z4).seen = NW at *
          generalize lasts T = WI at *
          generalize T.seen = TS at *
          go_loop [20] (fun t => ∃ q : Nat, q ≤ N ∧ t = .int .i64 (64 * q : Nat)) (fun t => len0 - (RowKit.intOf t).toNat)
          case atStart => exact ⟨0, Nat.zero_le _, rfl⟩
          case round =>
            obtain ⟨q, hq, rfl⟩ := hrel
            by_cases hqN : q < N
            · have hQ : 64 * q + 64 ≤ len0 := by have := HNl.out; omega
              have pN := part_line oN9.sl hQ
              have pI := part_line oI9.sl hQ
              have pV := part_line oV9.sl hQ
              have yN : Bytes (lineAt NW q) := (hbU.drop _).take _
              have yI : Bytes (lineAt WI q) := (hbI.drop _).take _
              have yV : Bytes (lineAt TS q) := (hbT.drop _).take _
              have hor := hline q hqN
              rw [Nat.zero_add] at pN pI pV
              have xN := pN.text (P := Try.prog) Try.underlying22 Try.underlying5 Try.underlying9
              have xI := pI.text (P := Try.prog) Try.underlying22 Try.underlying5 Try.underlying9
              have xV := pV.text (P := Try.prog) Try.underlying22 Try.underlying5 Try.underlying9
              obtain ⟨Q, hQe⟩ : ∃ Q, 64 * q = Q := ⟨_, rfl⟩
              have HQ : Hid (64 * (q + 1) = Q + 64) := hid (by omega)
              rw [hQe] at xN xI xV hQ ⊢
              have hQi : (Q : Int) < len0 := by omega
              have n1 : ¬ kN = Q := by omega
              have n2 : ¬ kI = Q := by omega
              have n3 : ¬ kV = Q := by omega
              generalize lineAt NW q = LN at *
              generalize lineAt WI q = LI at *
              generalize lineAt TS q = LV at *
              clear pN pI pV oN9 oI9 oV9 t39 hline hsr hQe
              by_cases e : LN = LI
              · have he : ((strOfNums LN).toList == (strOfNums LI).toList) = true := by rw [text_eq yN yI]; simpa using e
                clear e hor
                go_wp2
                go_round
                case rel => exact ⟨q + 1, by omega, by rw [HQ.out]; go_num⟩
                case measure => simp [RowKit.intOf]; omega
              · have he : ((strOfNums LN).toList == (strOfNums LI).toList) = false := by rw [text_eq yN yI]; simpa using e
                have he2 : ((strOfNums LN).toList == (strOfNums LV).toList) = true := by
                  rw [text_eq yN yV]
                  rcases hor with h | h
                  · exact absurd h e
                  · simpa using h
                clear e hor
                go_wp2
                go_round
                case rel => exact ⟨q + 1, by omega, by rw [HQ.out]; go_num⟩
                case measure => simp [RowKit.intOf]; omega
            · obtain rfl : q = N := by omega
              rw [← HNl.out]
              clear oI9 oV9 hline
              cases sure with
              | false =>
                clear oN9
                go_wp2
                go_quiet (fail)
                go_wp2
                go_ret
                exact ⟨rfl, below_drewN hbl9 _⟩
              | true =>
                obtain ⟨h0, h1, h2⟩ := hsr rfl
                obtain ⟨i, hi⟩ : ∃ i : Nat, at_ = i := ⟨at_.toNat, by omega⟩
                subst hi
                rw [Int.toNat_natCast] at h1 h2
                have ty := fun m => (t39.below (below_drewN (Below.refl _ _) m)).text (P := Try.prog) Try.underlying22 Try.underlying5 Try.underlying9
                by_cases hk : kN = i
                · obtain rfl : len3 = 0 := by omega
                  obtain rfl : len0 = i := by omega
                  subst hk
                  have tn := fun m => ((oN9.sl.below (below_drewN (Below.refl _ _) m)).sliced kN (kN + 0) (by omega) (by omega)).text (P := Try.prog) Try.underlying22 Try.underlying5 Try.underlying9
                  rw [if_pos rfl, Nat.add_sub_cancel_left, h2] at tn
                  simp only [Nat.sub_self] at tn
                  clear oN9 t39
                  go_wp2
                  go_quiet (fail)
                  go_wp2
                  go_ret
                  exact ⟨by simp, below_drewN hbl9 _⟩
                · have tn := fun m => ((oN9.sl.below (below_drewN (Below.refl _ _) m)).sliced i (i + len3) (by omega) (by omega)).text (P := Try.prog) Try.underlying22 Try.underlying5 Try.underlying9
                  rw [if_neg hk, Nat.add_sub_cancel_left, h2] at tn
                  simp only [Option.map_some, Nat.mul_one, Addr.add_lit, Nat.zero_add] at tn
                  clear oN9 t39
                  go_wp2
                  go_quiet (fail)
                  go_wp2
                  go_ret
                  exact ⟨by simp, below_drewN hbl9 _⟩
theorem pmemLasts_walk (w : World) (a0 : Option Addr) (len0 cap0 : Nat) (z0 : List Int) (s0 : Sl .u8 w a0 len0 cap0 z0) (f0 : ∀ n ∈ z0, (Lit.int .u8 n).wf = true) (c0 : cap0 * 1 ≤ 140737488351232)
    (a1 : Option Addr) (len1 cap1 : Nat) (h91 : len1 ≤ 9223372036854775807) (D : Nat → ActD) (hA : ActsAt w a1 len1 D) (at_ : Int) (f2 : (Lit.int .i64 at_).wf = true)
    (a3 : Option Addr) (len3 cap3 : Nat) (z3 : List Int) (s3 : Sl .u8 w a3 len3 cap3 z3) (f3 : ∀ n ∈ z3, (Lit.int .u8 n).wf = true) (c3 : cap3 * 1 ≤ 140737488351232)
    (a4 : Option Addr) (len4 cap4 : Nat) (z4 : List Bool) (s4 : Slb w a4 len4 z4) (h94 : len4 ≤ 9223372036854775807) :
    Calls Try.prog 4 #[.slice a0 len0 cap0, .slice a1 len1 cap1, .int .i64 at_, .slice a3 len3 cap3, .slice a4 len4 cap4] w fun e w' => e = .returned (.bool true) ∧ Below w.heap.size w w' := by
  have r0 := s0.room
  have r3 := s3.room
  by_cases h : 2048 < len0 ∨ 2048 < len3
  · exact lasts_great w a0 len0 cap0 a1 len1 cap1 at_ a3 len3 cap3 a4 len4 cap4 h (by omega) (by omega)
  · cases hnew : newOk len0 with
    | false => exact lasts_none w a0 len0 cap0 (by omega) hnew a1 len1 cap1 at_ a3 len3 cap3 (by omega) a4 len4 cap4
    | true => exact lasts_good w a0 len0 cap0 z0 s0 (bytes_wf f0) (by omega) hnew a1 len1 cap1 h91 D hA at_ (bounds_i64 f2) a3 len3 cap3 z3 s3 (bytes_wf f3) (by omega) (by omega) a4 len4 cap4 z4 s4 h94
end Go.Proofs.Ytcelmnhdchfhiaa
