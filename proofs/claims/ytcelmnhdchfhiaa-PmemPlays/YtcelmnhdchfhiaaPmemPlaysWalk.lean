/- 'PmemPlays': the walk. -/
import Derived.Test.YtcelmnhdchfhiaaTells
import Derived.Test.YtcelmnhdchfhiaaSit
import Derived.Test.YtcelmnhdchfhiaaSmall
import Derived.Test.YtcelmnhdchfhiaaPlaysAid
import Derived.Test.YtcelmnhdchfhiaaRNew
import Derived.Deep.DeepCutAuto
import Derived.Deep.RegionWith
namespace Go.Proofs.Ytcelmnhdchfhiaa
open Go.RowKit
set_option linter.unusedVariables false

set_option maxRecDepth 100000 in
theorem plays_great (w : World) (a0 : Option Addr) (len0 cap0 : Nat) (h : 2048 < len0) (h9 : len0 ≤ 262144) (a1 : Option Addr) (len1 cap1 : Nat) :
    Calls Try.prog 3 #[.slice a0 len0 cap0, .slice a1 len1 cap1] w fun e w' => e = .returned (.bool true) ∧ Below w.heap.size w w' := by
  have h1 : (2048 : Int) < len0 := by omega
  have h2 : (len0 : Int) ≤ 262144 := by omega
  go_enter Try.func3, Try.ntmps3
  go_wp2_with (go_at_call 8; with_reducible refine (small_any _).mono ?_; rintro e w1 ⟨rfl, hb1⟩)
  go_ret
  exact ⟨rfl, hb1⟩
set_option maxRecDepth 100000 in
set_option maxHeartbeats 4000000 in
theorem plays_none (w : World) (a0 : Option Addr) (len0 cap0 : Nat) (z0 : List Int) (s0 : Sl .u8 w a0 len0 cap0 z0) (hg : ¬ ((2048 : Int) < len0) ∨ ((2048 : Int) < len0 ∧ ¬ ((len0 : Int) ≤ 262144))) (hl47 : len0 ≤ 140737488355328) (hnew : newOk len0 = false) (a1 : Option Addr) (len1 cap1 : Nat) :
    Calls Try.prog 3 #[.slice a0 len0 cap0, .slice a1 len1 cap1] w fun e w' => e = .returned (.bool true) ∧ Below w.heap.size w w' := by
  have hz0 := s0.len
  have hl9 : len0 ≤ 9223372036854775807 := by omega
  have cN := fun ao cap w => new_bad ao len0 cap w hl9 hnew
  have cR := fun w => rnew_bad a0 len0 cap0 w hl9 hnew
  rcases hg with hg1 | ⟨hg1, hg2⟩
  all_goals
    go_enter Try.func3, Try.ntmps3
    go_wp2_with (first
      | (go_at_call 8; with_reducible refine (small_any _).mono ?_; rintro e w1 ⟨rfl, hb1⟩; have s01 := s0.below hb1)
      | (go_at_call 9; with_reducible refine (lent_some _ _ _ _ _ s01 hl47).mono ?_; rintro e w2 ⟨g, rfl, hL, hgl, hb2⟩; have s02 := s01.below hb2; have cO := owned_one (hL.rowd hz0 hl47))
      | (go_at_call 10; with_reducible refine (cN _ _ _).mono ?_; rintro e w3 ⟨rfl, rfl⟩)
      | (go_at_call 11; with_reducible refine (kept_any _ _ _ _ _ _ hL s02 hl47).mono ?_; rintro e w3 ⟨rfl, rfl⟩)
      | (go_at_call 12; with_reducible refine cO.mono ?_; rintro e w5 ⟨rfl, ho5, _⟩)
      | (go_at_call 13; with_reducible refine (cR _).mono ?_; rintro e w6 ⟨rfl, rfl⟩))
    go_ret
    have hbA : Below w2.heap.size w2 (w2.alloc (.cells #[.slice (some ⟨g, 0, none⟩) len0 (len0 + 1)] 22)) := (Below.refl _ _).alloc (Nat.le_refl _) _
    have hb12 := next (next hb1 hb2) hbA
    have hs := hb1.size
    exact ⟨rfl, hb12.trans (ho5.below (fun j hj => by omega) hb12.size)⟩

set_option maxRecDepth 100000 in
set_option maxHeartbeats 100000000 in
theorem plays_good (w : World) (a0 : Option Addr) (len0 cap0 : Nat) (z0 : List Int) (s0 : Sl .u8 w a0 len0 cap0 z0) (hby : Bytes z0) (hl2 : len0 ≤ 2048) (hnew : newOk len0 = true)
    (a1 : Option Addr) (len1 cap1 : Nat) (h91 : len1 ≤ 9223372036854775807) (D : Nat → ActD) (hA : ActsAt w a1 len1 D) :
    Calls Try.prog 3 #[.slice a0 len0 cap0, .slice a1 len1 cap1] w fun e w' => e = .returned (.bool true) ∧ Below w.heap.size w w' := by
  have hn1 : ¬ ((2048 : Int) < len0) := by omega
  have hl47 : len0 ≤ 140737488355328 := by omega
  have hz0 := s0.len
  have hin0 : 0 < len0 → ∀ c, a0 = some c → c.block < w.heap.size := fun hp c hc => by
    obtain ⟨b3, o3, e3, l3, _⟩ := s0.here hp
    rw [hc] at e3
    cases e3
    exact l3
  go_enter Try.func3, Try.ntmps3
  go_wp2_with (first
    | (go_at_call 8; with_reducible refine (small_any _).mono ?_; rintro e w1 ⟨rfl, hb1⟩; have s01 := s0.below hb1; have hs1 := hb1.size)
    | (go_at_call 9; with_reducible refine (lent_some _ _ _ _ _ s01 hl47).mono ?_; rintro e w2 ⟨g, rfl, hL, hgl, hb2⟩; have s02 := s01.below hb2; have sL := hL.sl hz0)
    | (go_at_call 10; with_reducible refine (new_good _ _ _ _ _ sL hby hnew).mono ?_; rintro e w3 ⟨p, F0, rfl, hd0, hF0, hb3⟩; have hL3 := hL.below hb3; have s03 := s02.below hb3; have cO := owned_one (hL3.rowd hz0 hl47))
    | (go_at_call 11; with_reducible refine (kept_any _ _ _ _ _ _ hL3 s03 hl47).mono ?_; rintro e w4 ⟨rfl, rfl⟩)
    | (go_at_call 12; with_reducible refine cO.mono ?_; rintro e w5 ⟨rfl, ho5, _⟩;
       have hbA : Below w3.heap.size w3 (w3.alloc (.cells #[.slice (some ⟨g, 0, none⟩) len0 (len0 + 1)] 22)) := (Below.refl _ _).alloc (Nat.le_refl _) _;
       have s05 := (s03.below hbA).off ho5 (fun hp c hc hf => (by have := hin0 hp c hc; omega)))
    | (go_at_call 13; with_reducible refine (rnew_good _ _ _ _ _ s05 hby hnew).mono ?_; rintro e w6 ⟨q, G0, rfl, hr0, hG0, hb6⟩))
  have hT0 : Two w.heap.size w6 p q F0 G0 (St.new z0) (RSt.new z0) := by
    have hlt := hL.lt
    have hs5 := ho5.size
    have hsA := hbA.size
    refine ⟨((hd0.below hbA).off ho5 (fun k hk hf => by have := hF0 k hk; omega)).below hb6, hr0, ab_new ?_, fun j hj => ?_, fun j hj => ?_, fun j hj hg => ?_⟩
    · have : len0 ≠ 0 ∧ len0 % 64 = 0 ∧ len0 / 64 ≤ 4096 := by simpa [newOk] using hnew
      omega
    · have := hF0 j hj
      have := hb2.size
      omega
    · have := hG0 j hj
      have := hb2.size
      have := hb3.size
      omega
    · have := hd0.bound j hj
      have := hG0 j hg
      omega
  have hB0 : Below w.heap.size w w6 := by
    have b4 := next (next (next hb1 hb2) hb3) hbA
    have b5 := b4.trans (ho5.below (B := w.heap.size) (fun j hj => by omega) b4.size)
    exact next b5 hb6
  clear hb1 hb2 hb3 hb6 hbA ho5 hL hL3 sL s01 s02 s03 s05 cO hd0 hr0 hF0 hG0 s0 hby hin0 hnew
  go_loopw [12] (fun t wr => ∃ (k : Nat) (F G : Nat → Prop) (S : St) (R : RSt), k ≤ len1 ∧ t = .int .i64 k ∧ Two w.heap.size wr p q F G S R ∧ Below w.heap.size w wr) (fun t _ => len1 - (RowKit.intOf t).toNat)
  case atStart => exact ⟨0, F0, G0, _, _, Nat.zero_le _, rfl, hT0, hB0⟩
  case round =>
    clear hT0 hB0
    obtain ⟨k, F, G, S, R, hk, rfl, h2, hbl⟩ := hrel
    by_cases hlt : k < len1 ∧ k < 60
    · obtain ⟨b, off, rfl, hbw, hall⟩ := hA (by omega)
      have hAk := act_upto (hall k hlt.1) hbw hbl
      have hIn : ActIn w.heap.size wr (D k) := ⟨hAk.ok, (hall k hlt.1).ok.inn.bb, (hall k hlt.1).ok.inn.kb⟩
      obtain ⟨A, hAe⟩ : ∃ A, A = D k := ⟨_, rfl⟩
      rw [← hAe] at hAk hIn
      have j1 : (k : Int) < len1 := by omega
      have j2 : (k : Int) < 60 := by omega
      obtain ⟨c0, c1, c2, c3, c4, hok⟩ := hAk
      rw [Nat.mul_comm 5 k] at c0 c1 c2 c3 c4
      have hkl := hlt.1
      clear hall hA hAe hlt
      have sA := sit_new h2 hbl hbl.size hIn
      have hab := h2.ab
      have hS := h2.d.ok
      have r1 := hok.r1
      have r2 := hok.r2
      have hby := hok.by_
      have hbm := hok.bm
      have hbr := hok.bs.room
      have hzl := hok.bs.len
      have hkm := hok.km
      obtain ⟨act, pos, num, ba, bl, bc, bz, ka, kl, kc, kz⟩ := A
      simp only at *
      clear hok hIn h2 hbl
      by_cases hb4 : 4096 < bl
      · have hb4' : (4096 : Int) < bl := by omega
        go_wp2
        go_ret
        exact ⟨rfl, sA.bel⟩
      · have hb4' : ¬ ((4096 : Int) < bl) := by omega
        have hbl47 : bl ≤ 140737488355328 := by omega
        have hbl9 : bl ≤ 9223372036854775807 := by omega
        have hbl1 : bl + 1 ≤ 9223372036854775807 := by omega
        have tA : True := trivial
        obtain ⟨xl, x0, x1, x2, x3, x4⟩ := sA.ac
        simp only at x0 x1 x2 x3 x4
        clear hb4
        by_cases e0 : act = 0
        · subst e0
          as_aux_lemma =>
            by_cases hc : checkE S pos num = 0
            · obtain ⟨_, p0, p1, _⟩ := checkE_zero hc
              obtain ⟨i, rfl⟩ : ∃ i : Nat, pos = i := ⟨pos.toNat, by omega⟩
              obtain ⟨m, rfl⟩ : ∃ m : Nat, num = m := ⟨num.toNat, by omega⟩
              have cL := load_good sA.d i m hc
              have hcR := (ab_ask hab hS i m).trans hc
              go_wp2_with (first
                | (go_at_call 14; with_reducible refine cL.mono ?_; rintro e w4 ⟨ao, c, rfl, oL, hb4⟩; have s4 := sA.below hb4; have cR := rload_good s4.r i m hcR; rw [hab.se] at cR; obtain ⟨yl, y0, y1, y2, y3, y4⟩ := s4.ac; simp only at y0 y1 y2 y3 y4)
                | (go_at_call 15; with_reducible refine cR.mono ?_; rintro e w5 ⟨ao5, c5, rfl, oR, hb5⟩; have oL5 := oL.below hb5; have t1 := oL5.sl.text (P := Try.prog) Try.underlying22 Try.underlying5 Try.underlying9; have t2 := oR.sl.text (P := Try.prog) Try.underlying22 Try.underlying5 Try.underlying9; have cO := owned_one oL5.rowb; have hb45 := next hb4 hb5; have sp := oL.rowb.spot)
                | (go_at_call 12; with_reducible refine cO.mono ?_; rintro e w6 ⟨rfl, ho, _⟩; have hbO : Below w5.heap.size w5 (w5.alloc (.cells #[.slice ao m c] 22)) := (Below.refl _ _).alloc (Nat.le_refl _) _; have sZ := sA.fresh (next hb45 hbO) ho (fun j hj => (by have := (sp hj.2).2.1; have := hj.1; omega)); have habZ := hab; have cT := tells_any sZ.d sZ.r habZ)
                | (go_at_call 26; have _t := tA; with_reducible refine cT.mono ?_; rintro e wt ⟨rfl, hbt⟩; clear tA; have st := sZ.below hbt; have cT2 := tells_any st.d st.r habZ)
                | (go_at_call 26; with_reducible refine cT2.mono ?_; rintro e wu ⟨rfl, hbu⟩; have su := st.below hbu))
              go_roundw
              case rel => exact ⟨k + 1, _, _, _, _, by omega, by go_num, su.two habZ, su.bel⟩
              case measure => simp [RowKit.intOf]; omega
            · have cL := load_bad sA.d pos num r1 r2 hc
              have hcR := ab_ask hab hS pos num
              have cR := rload_bad sA.r pos num r1 r2 (by rw [hcR]; exact hc)
              rw [hcR] at cR
              clear hcR
              have cO := owned_one (rowd_nil (wr.alloc (.cells #[.int .i64 0, .int .i64 pos, .int .i64 num, .slice ba bl bc, .slice ka kl kc] 38)) w.heap.size)
              have eS : (wr.alloc (.cells #[.int .i64 0, .int .i64 pos, .int .i64 num, .slice ba bl bc, .slice ka kl kc] 38)).heap.size = wr.heap.size + 1 := by simp
              rw [eS] at cO
              clear eS
              have tn := (sl_none (wr.alloc (.cells #[.int .i64 0, .int .i64 pos, .int .i64 num, .slice ba bl bc, .slice ka kl kc] 38))).text (P := Try.prog) Try.underlying22 Try.underlying5 Try.underlying9
              go_wp2_with (first
                | (go_at_call 14; with_reducible refine cL.mono ?_; rintro e w4 ⟨rfl, rfl⟩)
                | (go_at_call 15; with_reducible refine cR.mono ?_; rintro e w5 ⟨rfl, rfl⟩)
                | (go_at_call 12; with_reducible refine cO.mono ?_; rintro e w6 ⟨rfl, ho, _⟩; have sZ := sA.fresh ((Below.refl _ _).alloc (Nat.le_refl _) _) ho (fun j hj => absurd hj.2 (by omega)); have habZ := hab; have cT := tells_any sZ.d sZ.r habZ)
                | (go_at_call 26; have _t := tA; with_reducible refine cT.mono ?_; rintro e wt ⟨rfl, hbt⟩; clear tA; have st := sZ.below hbt; have cT2 := tells_any st.d st.r habZ)
                | (go_at_call 26; with_reducible refine cT2.mono ?_; rintro e wu ⟨rfl, hbu⟩; have su := st.below hbu))
              go_roundw
              case rel => exact ⟨k + 1, _, _, _, _, by omega, by go_num, su.two habZ, su.bel⟩
              case measure => simp [RowKit.intOf]; omega
        · skip
          by_cases e1 : act = 1
          · subst e1
            as_aux_lemma =>
              have cL := lent_some ba bl bc bz _ sA.inn.ok.bs hbl47
              go_wp2_with (first
                | (go_at_call 9; with_reducible refine cL.mono ?_; rintro e w4 ⟨g, rfl, hL, hgl, hb4⟩; have s4 := sA.below hb4; have hgF : ¬ F g := (fun h => (by have := sA.d.bound _ h; omega)); have hgG : ¬ G g := (fun h => (by have := sA.r.bound _ h; omega)); have hgt := hL.lt;
                   have cS := store_does s4.d pos (some ⟨g, 0, none⟩) bl (bl + 1) bz r1 (hL.sl hzl) hby hbl1 (fun _ c hc hf => hgF (by cases hc; exact hf)); obtain ⟨yl, y0, y1, y2, y3, y4⟩ := s4.ac; simp only at y0 y1 y2 y3 y4)
                | (go_at_call 16; with_reducible refine cS.mono ?_; rintro e w5 ⟨rfl, F', d5, g5⟩; have s5 := s4.pm d5 g5; have hL5 := hL.off g5.off hgF; have cK := kept_any g ba bl bc bz w5 hL5 s5.inn.ok.bs hbl47; have cO := owned_one (hL5.rowd hzl hbl47); obtain ⟨zl, z0, z1, z2, z3, z4⟩ := s5.ac; simp only at z0 z1 z2 z3 z4)
                | (go_at_call 11; with_reducible refine cK.mono ?_; rintro e w6 ⟨rfl, rfl⟩)
                | (go_at_call 12; with_reducible refine cO.mono ?_; rintro e w7 ⟨rfl, ho, _⟩;
                   have s7 := (s5.below ((Below.refl _ _).alloc (Nat.le_refl _) _)).off ho (fun j hj _ => (by obtain ⟨rfl, _⟩ := hj; exact ⟨Nat.le_trans sA.le hgl, (fun hf => (by rcases g5.new _ hf with h | h; exact hgF h; omega)), hgG, (by have := sA.ac.lt; omega)⟩));
                   have cR := rstore_pair s7.r hab hS pos ba bl bc bz r1 s7.inn.ok.bs hby hbl9 s7.noG.1; obtain ⟨ul, u0, u1, u2, u3, u4⟩ := s7.ac; simp only at u0 u1 u2 u3 u4)
                | (go_at_call 17; with_reducible refine cR.mono ?_; rintro e w8 ⟨rfl, ⟨R1, r8, habZ⟩, g8⟩; have sZ := s7.rf r8 g8; have cT := tells_any sZ.d sZ.r habZ)
                | (go_at_call 26; have _t := tA; with_reducible refine cT.mono ?_; rintro e wt ⟨rfl, hbt⟩; clear tA; have st := sZ.below hbt; have cT2 := tells_any st.d st.r habZ)
                | (go_at_call 26; with_reducible refine cT2.mono ?_; rintro e wu ⟨rfl, hbu⟩; have su := st.below hbu))
              go_roundw
              case rel => exact ⟨k + 1, _, _, _, _, by omega, by go_num, su.two habZ, su.bel⟩
              case measure => simp [RowKit.intOf]; omega
          · skip
            by_cases e2 : act = 2
            · subst e2
              go_upto_region 35 with fail
              go_cut [168] from 70 to 205 (fun c wx => c = .bool false ∧ ∃ R1, Sit w.heap.size wr.heap.size w wx p q F G (Does (fun T => flushS T (lineA pos.toNat num.toNat) (lineB pos.toNat num.toNat)) S pos num) R1 ⟨2, pos, num, ba, bl, bc, bz, ka, kl, kc, kz⟩ ∧ Ab (Does (fun T => flushS T (lineA pos.toNat num.toNat) (lineB pos.toNat num.toNat)) S pos num) R1)
              case first =>
                as_aux_lemma =>
                  have sD := sA.below ((Below.refl _ _).drew)
                  have cF := flush_does sD.d pos num r1 r2
                  obtain ⟨yl, y0, y1, y2, y3, y4⟩ := sD.ac
                  simp only at y0 y1 y2 y3 y4
                  clear x0 x1 x2 x3 x4 sA c0 c1 c2 c3 c4
                  go_region_with (first
                    | (go_at_call 18; with_reducible refine cF.mono ?_; rintro e w4 ⟨rfl, d4, g4⟩; have s4 := sD.pm d4 g4; have cR := rflush_pair s4.r hab hS pos num r1 r2; obtain ⟨ul, u0, u1, u2, u3, u4⟩ := s4.ac; simp only at u0 u1 u2 u3 u4)
                    | (go_at_call 19; with_reducible refine cR.mono ?_; rintro e w5 ⟨rfl, ⟨R1, r5, habZ⟩, g5⟩; have sZ := s4.rf r5 g5))
                  all_goals (as_aux_lemma => (go_wp2_with fail; go_meet; exact ⟨by simp, R1, sZ, habZ⟩))
              case rest =>
                as_aux_lemma =>
                  obtain ⟨rfl, R1, sZ, habZ⟩ := hcut
                  clear sA x0 x1 x2 x3 x4
                  have cT := tells_any sZ.d sZ.r habZ
                  go_wp2_with (first
                    | (go_at_call 26; have _t := tA; with_reducible refine cT.mono ?_; rintro e wt ⟨rfl, hbt⟩; clear tA; have st := sZ.below hbt; have cT2 := tells_any st.d st.r habZ)
                    | (go_at_call 26; with_reducible refine cT2.mono ?_; rintro e wu ⟨rfl, hbu⟩; have su := st.below hbu))
                  go_roundw
                  case rel => exact ⟨k + 1, _, _, _, _, by omega, by go_num, su.two habZ, su.bel⟩
                  case measure => simp [RowKit.intOf]; omega
            · skip
              by_cases e3 : act = 3
              · subst e3
                as_aux_lemma =>
                  have cF := fence_does sA.d
                  go_wp2_with (first
                    | (go_at_call 20; with_reducible refine cF.mono ?_; rintro e w4 ⟨rfl, d4, g4⟩; have s4 := sA.pm d4 g4; have cR := rfence_pair s4.r hab hS)
                    | (go_at_call 21; with_reducible refine cR.mono ?_; rintro e w5 ⟨rfl, ⟨R1, r5, habZ⟩, g5⟩; have sZ := s4.rf r5 g5; have cT := tells_any sZ.d sZ.r habZ)
                    | (go_at_call 26; have _t := tA; with_reducible refine cT.mono ?_; rintro e wt ⟨rfl, hbt⟩; clear tA; have st := sZ.below hbt; have cT2 := tells_any st.d st.r habZ)
                    | (go_at_call 26; with_reducible refine cT2.mono ?_; rintro e wu ⟨rfl, hbu⟩; have su := st.below hbu))
                  go_roundw
                  case rel => exact ⟨k + 1, _, _, _, _, by omega, by go_num, su.two habZ, su.bel⟩
                  case measure => simp [RowKit.intOf]; omega
              · skip
                by_cases e4 : act = 4
                · subst e4
                  as_aux_lemma =>
                    have cF := arm_any sA.d num r2
                    go_wp2_with (first
                      | (go_at_call 22; with_reducible refine cF.mono ?_; rintro e w4 ⟨rfl, d4, g4, _⟩; have s4 := sA.pm d4 g4; have cR := rarm_any s4.r num r2; obtain ⟨ul, u0, u1, u2, u3, u4⟩ := s4.ac; simp only at u0 u1 u2 u3 u4)
                      | (go_at_call 23; with_reducible refine cR.mono ?_; rintro e w5 ⟨rfl, r5, g5⟩; have sZ := s4.rf r5 g5; have habZ := ab_arm hab num; have cT := tells_any sZ.d sZ.r habZ)
                      | (go_at_call 26; have _t := tA; with_reducible refine cT.mono ?_; rintro e wt ⟨rfl, hbt⟩; clear tA; have st := sZ.below hbt; have cT2 := tells_any st.d st.r habZ)
                      | (go_at_call 26; with_reducible refine cT2.mono ?_; rintro e wu ⟨rfl, hbu⟩; have su := st.below hbu))
                    go_roundw
                    case rel => exact ⟨k + 1, _, _, _, _, by omega, by go_num, su.two habZ, su.bel⟩
                    case measure => simp [RowKit.intOf]; omega
                · skip
                  by_cases e5 : act = 5
                  · subst e5
                    as_aux_lemma =>
                      have cF := crash_all sA.d ka kl kc kz sA.inn.ok.ks hkm sA.noF.2
                      go_wp2_with (first
                        | (go_at_call 24; with_reducible refine cF.mono ?_; rintro e w4 ⟨rfl, d4, g4⟩; have s4 := sA.pm d4 g4; have cR := rcrash_any s4.r ka kl kc kz s4.inn.ok.ks hkm s4.noG.2; obtain ⟨ul, u0, u1, u2, u3, u4⟩ := s4.ac; simp only at u0 u1 u2 u3 u4)
                        | (go_at_call 25; with_reducible refine cR.mono ?_; rintro e w5 ⟨rfl, G5, r5, g5⟩; have sZ := s4.rf r5 g5; have habZ := ab_crash hab hS kz; have cT := tells_any sZ.d sZ.r habZ)
                        | (go_at_call 26; have _t := tA; with_reducible refine cT.mono ?_; rintro e wt ⟨rfl, hbt⟩; clear tA; have st := sZ.below hbt; have cT2 := tells_any st.d st.r habZ)
                        | (go_at_call 26; with_reducible refine cT2.mono ?_; rintro e wu ⟨rfl, hbu⟩; have su := st.below hbu))
                      go_roundw
                      case rel => exact ⟨k + 1, _, _, _, _, by omega, by go_num, su.two habZ, su.bel⟩
                      case measure => simp [RowKit.intOf]; omega
                  · skip
                    have f0 : (act == 0) = false := by simpa using e0
                    have f1 : (act == 1) = false := by simpa using e1
                    have f2 : (act == 2) = false := by simpa using e2
                    have f3 : (act == 3) = false := by simpa using e3
                    have f4 : (act == 4) = false := by simpa using e4
                    have f5 : (act == 5) = false := by simpa using e5
                    have sZ := sA
                    have habZ := hab
                    have cT := tells_any sZ.d sZ.r habZ
                    clear sA
                    go_wp2_with (first
                      | (go_at_call 26; have _t := tA; with_reducible refine cT.mono ?_; rintro e wt ⟨rfl, hbt⟩; clear tA; have st := sZ.below hbt; have cT2 := tells_any st.d st.r habZ)
                      | (go_at_call 26; with_reducible refine cT2.mono ?_; rintro e wu ⟨rfl, hbu⟩; have su := st.below hbu))
                    go_roundw
                    case rel => exact ⟨k + 1, _, _, _, _, by omega, by go_num, su.two habZ, su.bel⟩
                    case measure => simp [RowKit.intOf]; omega
    · have hgd : ¬ ((k : Int) < len1) ∨ ((k : Int) < len1 ∧ ¬ ((k : Int) < 60)) := by omega
      clear hA hlt
      rcases hgd with hg1 | ⟨hg1, hg2⟩
      all_goals
        go_wp2
        go_ret
        exact ⟨rfl, hbl⟩
theorem pmemPlays_walk (w : World) (a0 : Option Addr) (len0 cap0 : Nat) (z0 : List Int) (s0 : Sl .u8 w a0 len0 cap0 z0) (f0 : ∀ n ∈ z0, (Lit.int .u8 n).wf = true) (c0 : cap0 * 1 ≤ 140737488351232)
    (a1 : Option Addr) (len1 cap1 : Nat) (h91 : len1 ≤ 9223372036854775807) (D : Nat → ActD) (hA : ActsAt w a1 len1 D) :
    Calls Try.prog 3 #[.slice a0 len0 cap0, .slice a1 len1 cap1] w fun e w' => e = .returned (.bool true) ∧ Below w.heap.size w w' := by
  have r0 := s0.room
  by_cases h : 2048 < len0 ∧ len0 ≤ 262144
  · exact plays_great w a0 len0 cap0 h.1 h.2 a1 len1 cap1
  · cases hnew : newOk len0 with
    | false => exact plays_none w a0 len0 cap0 z0 s0 (by omega) (by omega) hnew a1 len1 cap1
    | true =>
      have : len0 ≠ 0 ∧ len0 % 64 = 0 ∧ len0 / 64 ≤ 4096 := by simpa [newOk] using hnew
      exact plays_good w a0 len0 cap0 z0 s0 (bytes_wf f0) (by omega) hnew a1 len1 cap1 h91 D hA
end Go.Proofs.Ytcelmnhdchfhiaa
