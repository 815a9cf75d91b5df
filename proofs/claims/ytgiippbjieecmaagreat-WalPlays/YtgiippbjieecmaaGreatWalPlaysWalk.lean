/- 'WalPlays': the walk. -/
import Derived.Test.YtgiippbjieecmaaGreatPlaySit
import Derived.Test.YtgiippbjieecmaaGreatMgH
import Derived.Test.YtgiippbjieecmaaGreatFew
import Derived.Deep.DeepCutAuto
import Derived.Deep.CutBlock
namespace Go.Proofs.YtgiippbjieecmaaGreat
set_option maxRecDepth 100000
open Go.RowKit
set_option linter.unusedVariables false

theorem pl_new {w w1 w2 : World} {p q : Nat} {F G : Nat → Prop} {z : List Int} (hz : z.length % 64 = 0) (d : Dev w1 F p (St.new z)) (nF : ∀ k, F k → w.heap.size ≤ k) (b1 : Below w.heap.size w w1) (r : RDev w2 G q (RSt.new z)) (nG : ∀ k, G k → w1.heap.size ≤ k) (b2 : Below w1.heap.size w1 w2) : Pl w w2 p q F G (St.new z) (St.new z) :=
  ⟨d.below b2, ⟨d.ok, _, r, ab_new hz⟩, nF, fun k hk => Nat.le_trans b1.size (nG k hk), fun k hk hg => by have := d.bound k hk; have := nG k hg; omega, next b1 b2⟩
set_option maxHeartbeats 6400000 in
theorem plays_off (w : World) (a0 : Option Addr) (n cap : Nat) (z : List Int) (s0 : Sl .u8 w a0 n cap z) (f0 : ∀ x ∈ z, (Lit.int .u8 x).wf = true) (c0 : cap * 1 ≤ 140737488351232) (M F R : Int) (hg : (Lg.mk M F R).Ok) (po : Option Addr) (pn pc : Nat) (E : Nat → PlayD) (hE : Plays w po pn E) (hB : newOk n = false ∨ 4096 < n) :
    Calls Tryz.prog 3 #[.slice a0 n cap, .agg #[.int .i64 M, .int .i64 F, .int .i64 R], .slice po pn pc] w fun e w' => e = .returned (.bool true) ∧ Below w.heap.size w w' := by
  have hroom := s0.room
  have hlen := s0.len
  have hb := (Below.refl w.heap.size w).alloc (Nat.le_refl _) (.cells #[.int .i64 M, .int .i64 F, .int .i64 R] 24)
  have cS := wsmall_any (w.alloc (.cells #[.int .i64 M, .int .i64 F, .int .i64 R] 24))
  by_cases h1 : 4096 < n
  · have h1' : (4096 : Int) < (n : Int) := by omega
    clear hB h1 hlen
    go_enter Tryz.func3, Tryz.ntmps3
    go_wp2_with (first
      | (go_at_call 4; with_reducible refine cS.mono ?_; rintro e w1 ⟨rfl, b1⟩))
    go_ret
    exact ⟨rfl, next hb b1⟩
  · have hN : newOk n = false := by
      rcases hB with h | h
      · exact h
      · exact absurd h h1
    have h1' : ¬ ((4096 : Int) < (n : Int)) := by omega
    have hn9 : n ≤ 9223372036854775807 := by omega
    clear hB h1 hlen
    go_enter Tryz.func3, Tryz.ntmps3
    go_wp2_with (first
      | (go_at_call 4; with_reducible refine cS.mono ?_; rintro e w1 ⟨rfl, b1⟩; have cN := new_bad a0 n cap w1 hn9 hN; have cR := rnew_bad a0 n cap w1 hn9 hN)
      | (go_at_call 5; with_reducible refine cN.mono ?_; rintro e w2 ⟨rfl, rfl⟩)
      | (go_at_call 6; with_reducible refine cR.mono ?_; rintro e w2 ⟨rfl, rfl⟩))
    go_ret
    exact ⟨rfl, next hb b1⟩
set_option maxHeartbeats 12800000 in
theorem walPlays_walk (w : World) (a0 : Option Addr) (n cap : Nat) (z : List Int) (s0 : Sl .u8 w a0 n cap z) (f0 : ∀ x ∈ z, (Lit.int .u8 x).wf = true) (c0 : cap * 1 ≤ 140737488351232) (M F R : Int) (hg : (Lg.mk M F R).Ok) (po : Option Addr) (pn pc : Nat) (E : Nat → PlayD) (hE : Plays w po pn E) :
    Calls Tryz.prog 3 #[.slice a0 n cap, .agg #[.int .i64 M, .int .i64 F, .int .i64 R], .slice po pn pc] w fun e w' => e = .returned (.bool true) ∧ Below w.heap.size w w' := by
  by_cases hB : newOk n = false ∨ 4096 < n
  · exact plays_off w a0 n cap z s0 f0 c0 M F R hg po pn pc E hE hB
  · have hnew : newOk n = true := by
      cases h : newOk n with
      | true => rfl
      | false => exact absurd (Or.inl h) hB
    have h1 : n ≤ 4096 := by
      by_cases h : n ≤ 4096
      · exact h
      · exact absurd (Or.inr (by omega)) hB
    have hroom := s0.room
    have hlen := s0.len
    have hby : Bytes z := bytes_wf f0
    have h1' : ¬ ((4096 : Int) < (n : Int)) := by omega
    have hpn9 := hE.m
    have hz64 : z.length % 64 = 0 := by
      have : n ≠ 0 ∧ n % 64 = 0 ∧ n / 64 ≤ 4096 := by simpa [newOk] using hnew
      rw [hlen]; exact this.2.1
    have hb := (Below.refl w.heap.size w).alloc (Nat.le_refl _) (.cells #[.int .i64 M, .int .i64 F, .int .i64 R] 24)
    have hL := logAt_new w M F R
    have cS := wsmall_any (w.alloc (.cells #[.int .i64 M, .int .i64 F, .int .i64 R] 24))
    have HI := hid (And.intro s0 (And.intro hE (And.intro hb (And.intro hL (And.intro hby (And.intro hz64 hnew))))))
    clear s0 hE hb hL hby hz64 hnew hlen hB h1 f0
    go_enter Tryz.func3, Tryz.ntmps3
    go_wp2_with (first
      | (go_at_call 4; with_reducible refine cS.mono ?_; rintro e w1 ⟨rfl, b1⟩; have bw := next HI.out.2.2.1 b1; have cN := new_good a0 n cap z w1 (HI.out.1.below bw) HI.out.2.2.2.2.1 HI.out.2.2.2.2.2.2; have HW := hid (And.intro bw (And.intro (HI.out.2.2.2.1.below b1) b1)); clear bw b1)
      | (go_at_call 5; with_reducible refine cN.mono ?_; rintro e w2 ⟨p, F2, rfl, d2, n2, b2⟩; have cR := rnew_good a0 n cap z w2 (HI.out.1.below (next HW.out.1 b2)) HI.out.2.2.2.2.1 HI.out.2.2.2.2.2.2; have H2 := hid (And.intro d2 (And.intro n2 b2)); clear d2 n2 b2 cN)
      | (go_at_call 6; with_reducible refine cR.mono ?_; rintro e w3 ⟨q, G3, rfl, r3, n3, b3⟩; have HP0 := hid (pl_new HI.out.2.2.2.2.2.1 H2.out.1 H2.out.2.1 H2.out.2.2 r3 n3 b3); clear r3 n3 b3 cR))
    clear cS
    go_loopw [12] (fun t wx => ∃ (k : Nat) (F' G' : Nat → Prop) (S : St), k ≤ 20 ∧ t = .int .i64 k ∧ Hid (Pl w1 wx p q F' G' S S)) (fun t _ => 20 - (RowKit.intOf t).toNat)
    case atStart => exact ⟨0, F2, G3, St.new z, Nat.zero_le _, rfl, HP0⟩
    case round =>
      obtain ⟨k, F', G', S, hk, rfl, HP⟩ := hrel
      clear HP0 H2
      by_cases hkl : k < pn
      · have hkl' : (k : Int) < (pn : Int) := by omega
        by_cases hk20 : k < 20
        · have hk20' : (k : Int) < 20 := by omega
          obtain ⟨b, off, rfl, hbl, hcE⟩ := HI.out.2.1.here (by omega)
          have hAo := (HI.out.2.1.each k hkl).below HW.out.1
          have hcA := (hcE k hkl).far ((next HW.out.1 HP.out.bel).block b hbl)
          obtain ⟨A, hA⟩ : ∃ A, E k = A := ⟨_, rfl⟩
          rw [hA] at hAo hcA
          obtain ⟨c0', c1', c2', c3'⟩ := And.intro hcA.c0 (And.intro hcA.c1 (And.intro hcA.c2 hcA.c3))
          have HA := hid hAo
          obtain ⟨pb, pl⟩ := pb_new HP.out A
          have cF := few_any A.lo A.m A.lc A.D (wr.alloc (.cells #[.int .i64 A.act, .int .i64 A.n, .slice A.lo A.m A.lc, .slice A.ka A.kl A.kc] 37)) (hAo.ch.below pl.bel)
          obtain ⟨d0, d1, d2, d3⟩ := And.intro pb.c.c0 (And.intro pb.c.c1 (And.intro pb.c.c2 pb.c.c3))
          have HPB := hid (And.intro pb pl)
          have hm9 := hAo.ch.fit
          have hk9 := hAo.k9
          clear hcE hAo hcA hA pb pl HP
          cases hf : fewB A.D A.m with
          | false =>
            rw [hf] at cF
            go_wp2_with (first
              | (go_at_call 7; with_reducible refine cF.mono ?_; rintro e w2' ⟨rfl, rfl⟩))
            go_ret
            exact ⟨rfl, next HW.out.1 HPB.out.2.bel⟩
          | true =>
            rw [hf] at cF
            go_upto_block 2 with (first
              | (go_at_call 7; with_reducible refine cF.mono ?_; rintro e w2' ⟨rfl, rfl⟩))
            go_cut [] (fun wx => Hid (∃ F2 G2 S2, Pl w1 wx p q F2 G2 S2 S2))
            case first =>
              obtain ⟨P0, P1⟩ := HPB.out
              have lgA := HW.out.2.1.below P1.bel
              by_cases e0 : (A.act == 0) = true
              · have pld := P1.drew
                have lgD := HW.out.2.1.below pld.bel
                have pbd := P0.below (w' := (wr.alloc (.cells #[.int .i64 A.act, .int .i64 A.n, .slice A.lo A.m A.lc, .slice A.ka A.kl A.kc] 37)).drew) (below_drew (Below.refl _ _))
                have hc2 : (wr.alloc (.cells #[.int .i64 A.act, .int .i64 A.n, .slice A.lo A.m A.lc, .slice A.ka A.kl A.kc] 37)).drew.cell? ⟨wr.heap.size, 2, none⟩ = some (.slice A.lo A.m A.lc) := pbd.c.c2
                have cC := pld.commit M F R A.lo A.m A.lc A.D hg HA.out.ch
                obtain ⟨EE, hEE⟩ : ∃ EE, commitE S ⟨M, F, R⟩ (saysN A.D A.m) = EE := ⟨_, rfl⟩
                rw [hEE] at cC
                have HEE := hid hEE
                clear hEE cF
                go_wp2_with fail
                refine wp_region_held_drew (S := fun w' => (w'.cell? ⟨w.heap.size, 0, none⟩ = some (.int .i64 M) ∧ w'.cell? ⟨w.heap.size, 1, none⟩ = some (.int .i64 F) ∧ w'.cell? ⟨w.heap.size, 2, none⟩ = some (.int .i64 R)) ∧ w'.cell? ⟨wr.heap.size, 2, none⟩ = some (.slice A.lo A.m A.lc)) (by kernel_rfl) ⟨⟨lgD.c0, lgD.c1, lgD.c2⟩, hc2⟩ (fun hH => ?_)
                refine wpAnyH_take (i := 0) (v := ?_) (List.getElem?_toArray.trans rfl) (by kernel_rfl) (by kernel_rfl) (by kernel_rfl) (fun _ _ _ h => h) (Or.inl ⟨by rfl, ?_⟩) (by assumption) ?_
                rotate_left
                · (intro w hSw; obtain ⟨⟨h1, h2, h3⟩, h4⟩ := hSw; go_simp; try (with_reducible rfl))
                simp only [Act.put, List.setIfInBounds_toArray, List.set_cons_zero, List.set_cons_succ]
                refine wpAnyH_take (i := 1) (v := ?_) (List.getElem?_toArray.trans rfl) (by kernel_rfl) (by kernel_rfl) (by kernel_rfl) (fun _ _ _ h => h) (Or.inl ⟨by rfl, ?_⟩) (by assumption) ?_
                rotate_left
                · (intro w hSw; obtain ⟨⟨h1, h2, h3⟩, h4⟩ := hSw; go_simp; try (with_reducible rfl))
                simp only [Act.put, List.setIfInBounds_toArray, List.set_cons_zero, List.set_cons_succ]
                refine wpAnyH_take (i := 2) (v := ?_) (List.getElem?_toArray.trans rfl) (by kernel_rfl) (by kernel_rfl) (by kernel_rfl) (fun _ _ _ h => h) (Or.inl ⟨by rfl, ?_⟩) (by assumption) ?_
                rotate_left
                · (intro w hSw; obtain ⟨⟨h1, h2, h3⟩, h4⟩ := hSw; go_simp; try (with_reducible rfl))
                simp only [Act.put, List.setIfInBounds_toArray, List.set_cons_zero, List.set_cons_succ]
                refine wpAnyH_take (i := 3) (v := ?_) (List.getElem?_toArray.trans rfl) (by kernel_rfl) (by kernel_rfl) (by kernel_rfl) (fun _ _ _ h => h) (Or.inl ⟨by rfl, ?_⟩) (by assumption) ?_
                rotate_left
                · (intro w hSw; obtain ⟨⟨h1, h2, h3⟩, h4⟩ := hSw; go_simp; try (with_reducible rfl))
                simp only [Act.put, List.setIfInBounds_toArray, List.set_cons_zero, List.set_cons_succ]
                refine wpAnyH_take (i := 5) (v := ?_) (List.getElem?_toArray.trans rfl) (by kernel_rfl) (by kernel_rfl) (by kernel_rfl) (fun _ _ _ h => h) (Or.inl ⟨by rfl, ?_⟩) (by assumption) ?_
                rotate_left
                · (intro w hSw; obtain ⟨⟨h1, h2, h3⟩, h4⟩ := hSw; go_simp; try (with_reducible rfl))
                simp only [Act.put, List.setIfInBounds_toArray, List.set_cons_zero, List.set_cons_succ]
                refine wpAnyH_take (i := 6) (v := ?_) (List.getElem?_toArray.trans rfl) (by kernel_rfl) (by kernel_rfl) (by kernel_rfl) (fun _ _ _ h => h) (Or.inl ⟨by rfl, ?_⟩) (by assumption) ?_
                rotate_left
                · (intro w hSw; obtain ⟨⟨h1, h2, h3⟩, h4⟩ := hSw; go_simp; try (with_reducible rfl))
                simp only [Act.put, List.setIfInBounds_toArray, List.set_cons_zero, List.set_cons_succ]
                refine wpAnyH_take (i := 7) (v := ?_) (List.getElem?_toArray.trans rfl) (by kernel_rfl) (by kernel_rfl) (by kernel_rfl) (fun _ _ _ h => h) (Or.inl ⟨by rfl, ?_⟩) (by assumption) ?_
                rotate_left
                · (intro w hSw; obtain ⟨⟨h1, h2, h3⟩, h4⟩ := hSw; go_simp; try (with_reducible rfl))
                simp only [Act.put, List.setIfInBounds_toArray, List.set_cons_zero, List.set_cons_succ]
                refine wpAnyH_take (i := 8) (v := ?_) (List.getElem?_toArray.trans rfl) (by kernel_rfl) (by kernel_rfl) (by kernel_rfl) (fun _ _ _ h => h) (Or.inl ⟨by rfl, ?_⟩) (by assumption) ?_
                rotate_left
                · (intro w hSw; obtain ⟨⟨h1, h2, h3⟩, h4⟩ := hSw; go_simp; try (with_reducible rfl))
                simp only [Act.put, List.setIfInBounds_toArray, List.set_cons_zero, List.set_cons_succ]
                refine wpAnyH_ready (rs := [4]) (by kernel_rfl) (by simp) ?_
                refine AllReadyH.cons (List.getElem?_toArray.trans rfl) (fun K3 hK3 => ?_) AllReadyH.nil
                go_simp
                refine (cC).mono ?_
                rintro e x1 ⟨rfl, F1, p1, g1⟩
                have m1 := HW.out.2.1.below p1.bel
                have q1 := pbd.pm g1
                have cC2 := p1.rcommit M F R A.lo A.m A.lc A.D hg HA.out.ch
                rw [HEE.out] at cC2
                dsimp only
                refine hK3.out _ _ ⟨⟨m1.c0, m1.c1, m1.c2⟩, q1.c.c2⟩ (fun hHeld3 => ?_)
                clear hK3 K3
                refine wpAnyH_ready (rs := [9]) (by kernel_rfl) (by simp) ?_
                refine AllReadyH.cons (List.getElem?_toArray.trans rfl) (fun K3 hK3 => ?_) AllReadyH.nil
                go_simp
                refine (cC2).mono ?_
                rintro e x2 ⟨rfl, p2, g2⟩
                have m2 := HW.out.2.1.below p2.bel
                have q2 := q1.rf g2
                dsimp only
                refine hK3.out _ _ ⟨⟨m2.c0, m2.c1, m2.c2⟩, q2.c.c2⟩ (fun hHeld3 => ?_)
                clear hK3 K3
                refine wpAnyH_take (i := 10) (v := ?_) (List.getElem?_toArray.trans rfl) (by kernel_rfl) (by kernel_rfl) (by kernel_rfl) (fun _ _ _ h => h) (Or.inl ⟨by rfl, ?_⟩) (by assumption) ?_
                rotate_left
                · (intro w hSw; obtain ⟨⟨h1, h2, h3⟩, h4⟩ := hSw; go_simp; try (with_reducible rfl))
                simp only [Act.put, List.setIfInBounds_toArray, List.set_cons_zero, List.set_cons_succ]
                refine wpAnyH_done (by kernel_rfl) ?_ _
                go_wp2_with fail
                go_meet
                exact hid ⟨F1, G', _, p2⟩
              · have e0' : (A.act == 0) = false := by simpa using e0
                clear e0
                by_cases e1 : (A.act == 1) = true
                · have cC := P1.recover M F R hg
                  obtain ⟨EE, hEE⟩ : ∃ EE, recovE S ⟨M, F, R⟩ = EE := ⟨_, rfl⟩
                  obtain ⟨NN, hNN⟩ : ∃ NN, recovN S ⟨M, F, R⟩ = NN := ⟨_, rfl⟩
                  rw [hEE, hNN] at cC
                  have HEN := hid (And.intro hEE hNN)
                  obtain ⟨l0, l1, l2⟩ := And.intro lgA.c0 (And.intro lgA.c1 lgA.c2)
                  clear hEE hNN cF lgA
                  go_wp2_with (first
                    | (go_at_call 10; with_reducible refine cC.mono ?_; rintro e x1 ⟨rfl, F1, p1, g1⟩; have m1 := HW.out.2.1.below p1.bel; obtain ⟨k0, k1, k2⟩ := And.intro m1.c0 (And.intro m1.c1 m1.c2); have cC2 := p1.rrecover M F R hg; rw [HEN.out.1, HEN.out.2] at cC2; clear m1 g1)
                    | (go_at_call 11; with_reducible refine cC2.mono ?_; rintro e x2 ⟨rfl, p2, g2⟩))
                  go_meet
                  exact hid ⟨F1, G', _, p2⟩
                · have e1' : (A.act == 1) = false := by simpa using e1
                  clear e1
                  by_cases e2 : (A.act == 2) = true
                  · have cC := P1.arm A.n HA.out.n
                    have c1A : (wr.alloc (.cells #[.int .i64 A.act, .int .i64 A.n, .slice A.lo A.m A.lc, .slice A.ka A.kl A.kc] 37)).cell? ⟨wr.heap.size, 1, none⟩ = some (.int .i64 A.n) := P0.c.c1
                    have HP0 := hid P0
                    clear cF lgA P0
                    go_wp2_with (first
                      | (go_at_call 12; with_reducible refine cC.mono ?_; rintro e x1 ⟨rfl, p1, g1⟩; have c1B : x1.cell? ⟨wr.heap.size, 1, none⟩ = some (.int .i64 A.n) := (HP0.out.pm g1).c.c1; have cC2 := p1.rarm A.n HA.out.n; clear g1)
                      | (go_at_call 13; with_reducible refine cC2.mono ?_; rintro e x2 ⟨rfl, p2, g2⟩))
                    go_meet
                    exact hid ⟨F', G', _, p2⟩
                  · have e2' : (A.act == 2) = false := by simpa using e2
                    clear e2
                    by_cases e3 : (A.act == 3) = true
                    · have cC := P1.crash A HA.out
                      have c1A : (wr.alloc (.cells #[.int .i64 A.act, .int .i64 A.n, .slice A.lo A.m A.lc, .slice A.ka A.kl A.kc] 37)).cell? ⟨wr.heap.size, 3, none⟩ = some (.slice A.ka A.kl A.kc) := P0.c.c3
                      have HP0 := hid P0
                      clear cF lgA P0
                      go_wp2_with (first
                        | (go_at_call 14; with_reducible refine cC.mono ?_; rintro e x1 ⟨rfl, p1, g1⟩; have c1B : x1.cell? ⟨wr.heap.size, 3, none⟩ = some (.slice A.ka A.kl A.kc) := (HP0.out.pm g1).c.c3; have cC2 := p1.rcrash A HA.out; clear g1)
                        | (go_at_call 15; with_reducible refine cC2.mono ?_; rintro e x2 ⟨rfl, G2, p2, g2⟩))
                      go_meet
                      exact hid ⟨F', G2, _, p2⟩
                    · have e3' : (A.act == 3) = false := by simpa using e3
                      clear e3 cF
                      go_wp2_with fail
                      go_meet
                      exact hid ⟨F', G', S, P1⟩
            case rest =>
              obtain ⟨F2, G2, S2, plc⟩ := hcut.out
              have hkk : k + 1 ≤ 20 := by omega
              have pl0 := plc.drew
              have cI := image_any pl0.d
              have HLE : Hid (∀ w', Below w1.heap.size w1 w' → Below w.heap.size w w') := fun w' hb => next HW.out.1 hb
              clear HPB cF d0 d1 d2 d3 c0' c1' c2' c3' hcut
              go_wp2_with fail
              refine wp_region_held_drew (S := fun w' => True) (by kernel_rfl) trivial (fun hH => ?_)
              refine wpAnyH_take (i := 0) (v := ?_) (List.getElem?_toArray.trans rfl) (by kernel_rfl) (by kernel_rfl) (by kernel_rfl) (fun _ _ _ h => h) (Or.inl ⟨by rfl, ?_⟩) (by assumption) ?_
              rotate_left
              · (intro w hSw; skip; go_simp; try (with_reducible rfl))
              simp only [Act.put, List.setIfInBounds_toArray, List.set_cons_zero, List.set_cons_succ]
              refine wpAnyH_take (i := 3) (v := ?_) (List.getElem?_toArray.trans rfl) (by kernel_rfl) (by kernel_rfl) (by kernel_rfl) (fun _ _ _ h => h) (Or.inl ⟨by rfl, ?_⟩) (by assumption) ?_
              rotate_left
              · (intro w hSw; skip; go_simp; try (with_reducible rfl))
              simp only [Act.put, List.setIfInBounds_toArray, List.set_cons_zero, List.set_cons_succ]
              refine wpAnyH_ready (rs := [1]) (by kernel_rfl) (by simp) ?_
              refine AllReadyH.cons (List.getElem?_toArray.trans rfl) (fun K3 hK3 => ?_) AllReadyH.nil
              go_simp
              refine (cI).mono ?_
              rintro e v1 ⟨gi, ci, rfl, oI, v1b⟩
              dsimp only
              refine hK3.out _ _ trivial (fun hHeld3 => ?_)
              clear hK3 K3
              refine wpAnyH_ready (rs := [2, 4]) (by kernel_rfl) (by simp) ?_
              refine AllReadyH.cons (List.getElem?_toArray.trans rfl) (fun K3 hK3 => ?_) (AllReadyH.cons (List.getElem?_toArray.trans rfl) (fun K3 hK3 => ?_) AllReadyH.nil)
              · skip
                have t1 := oI.sl.text (P := Tryz.prog) Tryz.underlying22 Tryz.underlying5 Tryz.underlying9
                go_simp
                refine hK3.out _ _ trivial (fun hHeld3 => ?_)
                clear hK3 K3
                refine wpAnyH_ready (rs := [4]) (by kernel_rfl) (by simp) ?_
                refine AllReadyH.cons (List.getElem?_toArray.trans rfl) (fun K3 hK3 => ?_) AllReadyH.nil
                go_simp
                refine ((pl0.below v1b).r.image).mono ?_
                rintro e v2 ⟨gj, cj, rfl, oJ, v2b⟩
                dsimp only
                refine hK3.out _ _ trivial (fun hHeld3 => ?_)
                clear hK3 K3
                refine wpAnyH_ready (rs := [5]) (by kernel_rfl) (by simp) ?_
                refine AllReadyH.cons (List.getElem?_toArray.trans rfl) (fun K3 hK3 => ?_) AllReadyH.nil
                have t2 := oJ.sl.text (P := Tryz.prog) Tryz.underlying22 Tryz.underlying5 Tryz.underlying9
                go_simp
                refine hK3.out _ _ trivial (fun hHeld3 => ?_)
                clear hK3 K3
                refine wpAnyH_take (i := 6) (v := ?_) (List.getElem?_toArray.trans rfl) (by kernel_rfl) (by kernel_rfl) (by kernel_rfl) (fun _ _ _ h => h) (Or.inl ⟨by rfl, ?_⟩) (by assumption) ?_
                rotate_left
                · (intro w hSw; skip; go_simp; try (with_reducible rfl))
                simp only [Act.put, List.setIfInBounds_toArray, List.set_cons_zero, List.set_cons_succ]
                refine wpAnyH_take (i := 7) (v := ?_) (List.getElem?_toArray.trans rfl) (by kernel_rfl) (by kernel_rfl) (by kernel_rfl) (fun _ _ _ h => h) (Or.inl ⟨by rfl, ?_⟩) (by assumption) ?_
                rotate_left
                · (intro w hSw; skip; go_simp; try (with_reducible rfl))
                simp only [Act.put, List.setIfInBounds_toArray, List.set_cons_zero, List.set_cons_succ]
                refine wpAnyH_take (i := 8) (v := ?_) (List.getElem?_toArray.trans rfl) (by kernel_rfl) (by kernel_rfl) (by kernel_rfl) (fun _ _ _ h => h) (Or.inl ⟨by rfl, ?_⟩) (by assumption) ?_
                rotate_left
                · (intro w hSw; skip; go_simp; try (with_reducible rfl))
                simp only [Act.put, List.setIfInBounds_toArray, List.set_cons_zero, List.set_cons_succ]
                refine wpAnyH_take (i := 11) (v := ?_) (List.getElem?_toArray.trans rfl) (by kernel_rfl) (by kernel_rfl) (by kernel_rfl) (fun _ _ _ h => h) (Or.inl ⟨by rfl, ?_⟩) (by assumption) ?_
                rotate_left
                · (intro w hSw; skip; go_simp; try (with_reducible rfl))
                simp only [Act.put, List.setIfInBounds_toArray, List.set_cons_zero, List.set_cons_succ]
                have pl2 := (pl0.below v1b).below v2b
                have cV := view_any pl2.d
                refine wpAnyH_ready (rs := [9]) (by kernel_rfl) (by simp) ?_
                refine AllReadyH.cons (List.getElem?_toArray.trans rfl) (fun K3 hK3 => ?_) AllReadyH.nil
                go_simp
                refine (cV).mono ?_
                rintro e v3 ⟨gv, cv, rfl, oV, v3b⟩
                dsimp only
                refine hK3.out _ _ trivial (fun hHeld3 => ?_)
                clear hK3 K3
                refine wpAnyH_ready (rs := [10, 12]) (by kernel_rfl) (by simp) ?_
                refine AllReadyH.cons (List.getElem?_toArray.trans rfl) (fun K3 hK3 => ?_) (AllReadyH.cons (List.getElem?_toArray.trans rfl) (fun K3 hK3 => ?_) AllReadyH.nil)
                · skip
                  have t3 := oV.sl.text (P := Tryz.prog) Tryz.underlying22 Tryz.underlying5 Tryz.underlying9
                  go_simp
                  refine hK3.out _ _ trivial (fun hHeld3 => ?_)
                  clear hK3 K3
                  refine wpAnyH_ready (rs := [12]) (by kernel_rfl) (by simp) ?_
                  refine AllReadyH.cons (List.getElem?_toArray.trans rfl) (fun K3 hK3 => ?_) AllReadyH.nil
                  go_simp
                  refine ((pl2.below v3b).r.view).mono ?_
                  rintro e v4 ⟨gx, cx, rfl, oX, v4b⟩
                  dsimp only
                  refine hK3.out _ _ trivial (fun hHeld3 => ?_)
                  clear hK3 K3
                  refine wpAnyH_ready (rs := [13]) (by kernel_rfl) (by simp) ?_
                  refine AllReadyH.cons (List.getElem?_toArray.trans rfl) (fun K3 hK3 => ?_) AllReadyH.nil
                  have t4 := oX.sl.text (P := Tryz.prog) Tryz.underlying22 Tryz.underlying5 Tryz.underlying9
                  go_simp
                  refine hK3.out _ _ trivial (fun hHeld3 => ?_)
                  clear hK3 K3
                  refine wpAnyH_take (i := 14) (v := ?_) (List.getElem?_toArray.trans rfl) (by kernel_rfl) (by kernel_rfl) (by kernel_rfl) (fun _ _ _ h => h) (Or.inl ⟨by rfl, ?_⟩) (by assumption) ?_
                  rotate_left
                  · (intro w hSw; skip; go_simp; try (with_reducible rfl))
                  simp only [Act.put, List.setIfInBounds_toArray, List.set_cons_zero, List.set_cons_succ]
                  refine wpAnyH_take (i := 15) (v := ?_) (List.getElem?_toArray.trans rfl) (by kernel_rfl) (by kernel_rfl) (by kernel_rfl) (fun _ _ _ h => h) (Or.inl ⟨by rfl, ?_⟩) (by assumption) ?_
                  rotate_left
                  · (intro w hSw; skip; go_simp; try (with_reducible rfl))
                  simp only [Act.put, List.setIfInBounds_toArray, List.set_cons_zero, List.set_cons_succ]
                  refine wpAnyH_take (i := 16) (v := ?_) (List.getElem?_toArray.trans rfl) (by kernel_rfl) (by kernel_rfl) (by kernel_rfl) (fun _ _ _ h => h) (Or.inl ⟨by rfl, ?_⟩) (by assumption) ?_
                  rotate_left
                  · (intro w hSw; skip; go_simp; try (with_reducible rfl))
                  simp only [Act.put, List.setIfInBounds_toArray, List.set_cons_zero, List.set_cons_succ]
                  refine wpAnyH_take (i := 17) (v := ?_) (List.getElem?_toArray.trans rfl) (by kernel_rfl) (by kernel_rfl) (by kernel_rfl) (fun _ _ _ h => h) (Or.inl ⟨by rfl, ?_⟩) (by assumption) ?_
                  rotate_left
                  · (intro w hSw; skip; go_simp; try (with_reducible rfl))
                  simp only [Act.put, List.setIfInBounds_toArray, List.set_cons_zero, List.set_cons_succ]
                  refine wpAnyH_take (i := 19) (v := ?_) (List.getElem?_toArray.trans rfl) (by kernel_rfl) (by kernel_rfl) (by kernel_rfl) (fun _ _ _ h => h) (Or.inl ⟨by rfl, ?_⟩) (by assumption) ?_
                  rotate_left
                  · (intro w hSw; skip; go_simp; try (with_reducible rfl))
                  simp only [Act.put, List.setIfInBounds_toArray, List.set_cons_zero, List.set_cons_succ]
                  have pl4 := (((pl0.below v1b).below v2b).below v3b).below v4b
                  refine wpAnyH_ready (rs := [18]) (by kernel_rfl) (by simp) ?_
                  refine AllReadyH.cons (List.getElem?_toArray.trans rfl) (fun K3 hK3 => ?_) AllReadyH.nil
                  go_simp
                  refine (down_any pl4.d).mono ?_
                  rintro e w' ⟨rfl, rfl⟩
                  dsimp only
                  refine hK3.out _ _ trivial (fun hHeld3 => ?_)
                  clear hK3 K3
                  refine wpAnyH_ready (rs := [20]) (by kernel_rfl) (by simp) ?_
                  refine AllReadyH.cons (List.getElem?_toArray.trans rfl) (fun K3 hK3 => ?_) AllReadyH.nil
                  go_simp
                  refine (pl4.r.down).mono ?_
                  rintro e w' ⟨rfl, rfl⟩
                  dsimp only
                  refine hK3.out _ _ trivial (fun hHeld3 => ?_)
                  clear hK3 K3
                  refine wpAnyH_take (i := 21) (v := ?_) (List.getElem?_toArray.trans rfl) (by kernel_rfl) (by kernel_rfl) (by kernel_rfl) (fun _ _ _ h => h) (Or.inl ⟨by rfl, ?_⟩) (by assumption) ?_
                  rotate_left
                  · (intro w hSw; skip; go_simp; try (with_reducible rfl))
                  simp only [Act.put, List.setIfInBounds_toArray, List.set_cons_zero, List.set_cons_succ]
                  refine wpAnyH_take (i := 22) (v := ?_) (List.getElem?_toArray.trans rfl) (by kernel_rfl) (by kernel_rfl) (by kernel_rfl) (fun _ _ _ h => h) (Or.inl ⟨by rfl, ?_⟩) (by assumption) ?_
                  rotate_left
                  · (intro w hSw; skip; go_simp; try (with_reducible rfl))
                  simp only [Act.put, List.setIfInBounds_toArray, List.set_cons_zero, List.set_cons_succ]
                  refine wpAnyH_done (by kernel_rfl) ?_ _
                  go_wp2
                  go_roundw
                  case rel => exact ⟨k + 1, F2, G2, S2, hkk, by go_num, hid pl4⟩
                  case measure => simp [RowKit.intOf]; omega
                · skip
                  go_simp
                  refine ((pl2.below v3b).r.view).mono ?_
                  rintro e v4 ⟨gx, cx, rfl, oX, v4b⟩
                  dsimp only
                  refine hK3.out _ _ trivial (fun hHeld3 => ?_)
                  clear hK3 K3
                  refine wpAnyH_ready (rs := [10, 13]) (by kernel_rfl) (by simp) ?_
                  refine AllReadyH.cons (List.getElem?_toArray.trans rfl) (fun K3 hK3 => ?_) (AllReadyH.cons (List.getElem?_toArray.trans rfl) (fun K3 hK3 => ?_) AllReadyH.nil)
                  · skip
                    have t3 := (oV.below v4b).sl.text (P := Tryz.prog) Tryz.underlying22 Tryz.underlying5 Tryz.underlying9
                    go_simp
                    refine hK3.out _ _ trivial (fun hHeld3 => ?_)
                    clear hK3 K3
                    refine wpAnyH_ready (rs := [13]) (by kernel_rfl) (by simp) ?_
                    refine AllReadyH.cons (List.getElem?_toArray.trans rfl) (fun K3 hK3 => ?_) AllReadyH.nil
                    have t4 := oX.sl.text (P := Tryz.prog) Tryz.underlying22 Tryz.underlying5 Tryz.underlying9
                    go_simp
                    refine hK3.out _ _ trivial (fun hHeld3 => ?_)
                    clear hK3 K3
                    refine wpAnyH_take (i := 14) (v := ?_) (List.getElem?_toArray.trans rfl) (by kernel_rfl) (by kernel_rfl) (by kernel_rfl) (fun _ _ _ h => h) (Or.inl ⟨by rfl, ?_⟩) (by assumption) ?_
                    rotate_left
                    · (intro w hSw; skip; go_simp; try (with_reducible rfl))
                    simp only [Act.put, List.setIfInBounds_toArray, List.set_cons_zero, List.set_cons_succ]
                    refine wpAnyH_take (i := 15) (v := ?_) (List.getElem?_toArray.trans rfl) (by kernel_rfl) (by kernel_rfl) (by kernel_rfl) (fun _ _ _ h => h) (Or.inl ⟨by rfl, ?_⟩) (by assumption) ?_
                    rotate_left
                    · (intro w hSw; skip; go_simp; try (with_reducible rfl))
                    simp only [Act.put, List.setIfInBounds_toArray, List.set_cons_zero, List.set_cons_succ]
                    refine wpAnyH_take (i := 16) (v := ?_) (List.getElem?_toArray.trans rfl) (by kernel_rfl) (by kernel_rfl) (by kernel_rfl) (fun _ _ _ h => h) (Or.inl ⟨by rfl, ?_⟩) (by assumption) ?_
                    rotate_left
                    · (intro w hSw; skip; go_simp; try (with_reducible rfl))
                    simp only [Act.put, List.setIfInBounds_toArray, List.set_cons_zero, List.set_cons_succ]
                    refine wpAnyH_take (i := 17) (v := ?_) (List.getElem?_toArray.trans rfl) (by kernel_rfl) (by kernel_rfl) (by kernel_rfl) (fun _ _ _ h => h) (Or.inl ⟨by rfl, ?_⟩) (by assumption) ?_
                    rotate_left
                    · (intro w hSw; skip; go_simp; try (with_reducible rfl))
                    simp only [Act.put, List.setIfInBounds_toArray, List.set_cons_zero, List.set_cons_succ]
                    refine wpAnyH_take (i := 19) (v := ?_) (List.getElem?_toArray.trans rfl) (by kernel_rfl) (by kernel_rfl) (by kernel_rfl) (fun _ _ _ h => h) (Or.inl ⟨by rfl, ?_⟩) (by assumption) ?_
                    rotate_left
                    · (intro w hSw; skip; go_simp; try (with_reducible rfl))
                    simp only [Act.put, List.setIfInBounds_toArray, List.set_cons_zero, List.set_cons_succ]
                    have pl4 := (((pl0.below v1b).below v2b).below v3b).below v4b
                    refine wpAnyH_ready (rs := [18]) (by kernel_rfl) (by simp) ?_
                    refine AllReadyH.cons (List.getElem?_toArray.trans rfl) (fun K3 hK3 => ?_) AllReadyH.nil
                    go_simp
                    refine (down_any pl4.d).mono ?_
                    rintro e w' ⟨rfl, rfl⟩
                    dsimp only
                    refine hK3.out _ _ trivial (fun hHeld3 => ?_)
                    clear hK3 K3
                    refine wpAnyH_ready (rs := [20]) (by kernel_rfl) (by simp) ?_
                    refine AllReadyH.cons (List.getElem?_toArray.trans rfl) (fun K3 hK3 => ?_) AllReadyH.nil
                    go_simp
                    refine (pl4.r.down).mono ?_
                    rintro e w' ⟨rfl, rfl⟩
                    dsimp only
                    refine hK3.out _ _ trivial (fun hHeld3 => ?_)
                    clear hK3 K3
                    refine wpAnyH_take (i := 21) (v := ?_) (List.getElem?_toArray.trans rfl) (by kernel_rfl) (by kernel_rfl) (by kernel_rfl) (fun _ _ _ h => h) (Or.inl ⟨by rfl, ?_⟩) (by assumption) ?_
                    rotate_left
                    · (intro w hSw; skip; go_simp; try (with_reducible rfl))
                    simp only [Act.put, List.setIfInBounds_toArray, List.set_cons_zero, List.set_cons_succ]
                    refine wpAnyH_take (i := 22) (v := ?_) (List.getElem?_toArray.trans rfl) (by kernel_rfl) (by kernel_rfl) (by kernel_rfl) (fun _ _ _ h => h) (Or.inl ⟨by rfl, ?_⟩) (by assumption) ?_
                    rotate_left
                    · (intro w hSw; skip; go_simp; try (with_reducible rfl))
                    simp only [Act.put, List.setIfInBounds_toArray, List.set_cons_zero, List.set_cons_succ]
                    refine wpAnyH_done (by kernel_rfl) ?_ _
                    go_wp2
                    go_roundw
                    case rel => exact ⟨k + 1, F2, G2, S2, hkk, by go_num, hid pl4⟩
                    case measure => simp [RowKit.intOf]; omega
                  · skip
                    have t4 := oX.sl.text (P := Tryz.prog) Tryz.underlying22 Tryz.underlying5 Tryz.underlying9
                    go_simp
                    refine hK3.out _ _ trivial (fun hHeld3 => ?_)
                    clear hK3 K3
                    refine wpAnyH_ready (rs := [10]) (by kernel_rfl) (by simp) ?_
                    refine AllReadyH.cons (List.getElem?_toArray.trans rfl) (fun K3 hK3 => ?_) AllReadyH.nil
                    have t3 := (oV.below v4b).sl.text (P := Tryz.prog) Tryz.underlying22 Tryz.underlying5 Tryz.underlying9
                    go_simp
                    refine hK3.out _ _ trivial (fun hHeld3 => ?_)
                    clear hK3 K3
                    refine wpAnyH_take (i := 14) (v := ?_) (List.getElem?_toArray.trans rfl) (by kernel_rfl) (by kernel_rfl) (by kernel_rfl) (fun _ _ _ h => h) (Or.inl ⟨by rfl, ?_⟩) (by assumption) ?_
                    rotate_left
                    · (intro w hSw; skip; go_simp; try (with_reducible rfl))
                    simp only [Act.put, List.setIfInBounds_toArray, List.set_cons_zero, List.set_cons_succ]
                    refine wpAnyH_take (i := 15) (v := ?_) (List.getElem?_toArray.trans rfl) (by kernel_rfl) (by kernel_rfl) (by kernel_rfl) (fun _ _ _ h => h) (Or.inl ⟨by rfl, ?_⟩) (by assumption) ?_
                    rotate_left
                    · (intro w hSw; skip; go_simp; try (with_reducible rfl))
                    simp only [Act.put, List.setIfInBounds_toArray, List.set_cons_zero, List.set_cons_succ]
                    refine wpAnyH_take (i := 16) (v := ?_) (List.getElem?_toArray.trans rfl) (by kernel_rfl) (by kernel_rfl) (by kernel_rfl) (fun _ _ _ h => h) (Or.inl ⟨by rfl, ?_⟩) (by assumption) ?_
                    rotate_left
                    · (intro w hSw; skip; go_simp; try (with_reducible rfl))
                    simp only [Act.put, List.setIfInBounds_toArray, List.set_cons_zero, List.set_cons_succ]
                    refine wpAnyH_take (i := 17) (v := ?_) (List.getElem?_toArray.trans rfl) (by kernel_rfl) (by kernel_rfl) (by kernel_rfl) (fun _ _ _ h => h) (Or.inl ⟨by rfl, ?_⟩) (by assumption) ?_
                    rotate_left
                    · (intro w hSw; skip; go_simp; try (with_reducible rfl))
                    simp only [Act.put, List.setIfInBounds_toArray, List.set_cons_zero, List.set_cons_succ]
                    refine wpAnyH_take (i := 19) (v := ?_) (List.getElem?_toArray.trans rfl) (by kernel_rfl) (by kernel_rfl) (by kernel_rfl) (fun _ _ _ h => h) (Or.inl ⟨by rfl, ?_⟩) (by assumption) ?_
                    rotate_left
                    · (intro w hSw; skip; go_simp; try (with_reducible rfl))
                    simp only [Act.put, List.setIfInBounds_toArray, List.set_cons_zero, List.set_cons_succ]
                    have pl4 := (((pl0.below v1b).below v2b).below v3b).below v4b
                    refine wpAnyH_ready (rs := [18]) (by kernel_rfl) (by simp) ?_
                    refine AllReadyH.cons (List.getElem?_toArray.trans rfl) (fun K3 hK3 => ?_) AllReadyH.nil
                    go_simp
                    refine (down_any pl4.d).mono ?_
                    rintro e w' ⟨rfl, rfl⟩
                    dsimp only
                    refine hK3.out _ _ trivial (fun hHeld3 => ?_)
                    clear hK3 K3
                    refine wpAnyH_ready (rs := [20]) (by kernel_rfl) (by simp) ?_
                    refine AllReadyH.cons (List.getElem?_toArray.trans rfl) (fun K3 hK3 => ?_) AllReadyH.nil
                    go_simp
                    refine (pl4.r.down).mono ?_
                    rintro e w' ⟨rfl, rfl⟩
                    dsimp only
                    refine hK3.out _ _ trivial (fun hHeld3 => ?_)
                    clear hK3 K3
                    refine wpAnyH_take (i := 21) (v := ?_) (List.getElem?_toArray.trans rfl) (by kernel_rfl) (by kernel_rfl) (by kernel_rfl) (fun _ _ _ h => h) (Or.inl ⟨by rfl, ?_⟩) (by assumption) ?_
                    rotate_left
                    · (intro w hSw; skip; go_simp; try (with_reducible rfl))
                    simp only [Act.put, List.setIfInBounds_toArray, List.set_cons_zero, List.set_cons_succ]
                    refine wpAnyH_take (i := 22) (v := ?_) (List.getElem?_toArray.trans rfl) (by kernel_rfl) (by kernel_rfl) (by kernel_rfl) (fun _ _ _ h => h) (Or.inl ⟨by rfl, ?_⟩) (by assumption) ?_
                    rotate_left
                    · (intro w hSw; skip; go_simp; try (with_reducible rfl))
                    simp only [Act.put, List.setIfInBounds_toArray, List.set_cons_zero, List.set_cons_succ]
                    refine wpAnyH_done (by kernel_rfl) ?_ _
                    go_wp2
                    go_roundw
                    case rel => exact ⟨k + 1, F2, G2, S2, hkk, by go_num, hid pl4⟩
                    case measure => simp [RowKit.intOf]; omega
              · skip
                go_simp
                refine ((pl0.below v1b).r.image).mono ?_
                rintro e v2 ⟨gj, cj, rfl, oJ, v2b⟩
                dsimp only
                refine hK3.out _ _ trivial (fun hHeld3 => ?_)
                clear hK3 K3
                refine wpAnyH_ready (rs := [2, 5]) (by kernel_rfl) (by simp) ?_
                refine AllReadyH.cons (List.getElem?_toArray.trans rfl) (fun K3 hK3 => ?_) (AllReadyH.cons (List.getElem?_toArray.trans rfl) (fun K3 hK3 => ?_) AllReadyH.nil)
                · skip
                  have t1 := (oI.below v2b).sl.text (P := Tryz.prog) Tryz.underlying22 Tryz.underlying5 Tryz.underlying9
                  go_simp
                  refine hK3.out _ _ trivial (fun hHeld3 => ?_)
                  clear hK3 K3
                  refine wpAnyH_ready (rs := [5]) (by kernel_rfl) (by simp) ?_
                  refine AllReadyH.cons (List.getElem?_toArray.trans rfl) (fun K3 hK3 => ?_) AllReadyH.nil
                  have t2 := oJ.sl.text (P := Tryz.prog) Tryz.underlying22 Tryz.underlying5 Tryz.underlying9
                  go_simp
                  refine hK3.out _ _ trivial (fun hHeld3 => ?_)
                  clear hK3 K3
                  refine wpAnyH_take (i := 6) (v := ?_) (List.getElem?_toArray.trans rfl) (by kernel_rfl) (by kernel_rfl) (by kernel_rfl) (fun _ _ _ h => h) (Or.inl ⟨by rfl, ?_⟩) (by assumption) ?_
                  rotate_left
                  · (intro w hSw; skip; go_simp; try (with_reducible rfl))
                  simp only [Act.put, List.setIfInBounds_toArray, List.set_cons_zero, List.set_cons_succ]
                  refine wpAnyH_take (i := 7) (v := ?_) (List.getElem?_toArray.trans rfl) (by kernel_rfl) (by kernel_rfl) (by kernel_rfl) (fun _ _ _ h => h) (Or.inl ⟨by rfl, ?_⟩) (by assumption) ?_
                  rotate_left
                  · (intro w hSw; skip; go_simp; try (with_reducible rfl))
                  simp only [Act.put, List.setIfInBounds_toArray, List.set_cons_zero, List.set_cons_succ]
                  refine wpAnyH_take (i := 8) (v := ?_) (List.getElem?_toArray.trans rfl) (by kernel_rfl) (by kernel_rfl) (by kernel_rfl) (fun _ _ _ h => h) (Or.inl ⟨by rfl, ?_⟩) (by assumption) ?_
                  rotate_left
                  · (intro w hSw; skip; go_simp; try (with_reducible rfl))
                  simp only [Act.put, List.setIfInBounds_toArray, List.set_cons_zero, List.set_cons_succ]
                  refine wpAnyH_take (i := 11) (v := ?_) (List.getElem?_toArray.trans rfl) (by kernel_rfl) (by kernel_rfl) (by kernel_rfl) (fun _ _ _ h => h) (Or.inl ⟨by rfl, ?_⟩) (by assumption) ?_
                  rotate_left
                  · (intro w hSw; skip; go_simp; try (with_reducible rfl))
                  simp only [Act.put, List.setIfInBounds_toArray, List.set_cons_zero, List.set_cons_succ]
                  have pl2 := (pl0.below v1b).below v2b
                  have cV := view_any pl2.d
                  refine wpAnyH_ready (rs := [9]) (by kernel_rfl) (by simp) ?_
                  refine AllReadyH.cons (List.getElem?_toArray.trans rfl) (fun K3 hK3 => ?_) AllReadyH.nil
                  go_simp
                  refine (cV).mono ?_
                  rintro e v3 ⟨gv, cv, rfl, oV, v3b⟩
                  dsimp only
                  refine hK3.out _ _ trivial (fun hHeld3 => ?_)
                  clear hK3 K3
                  refine wpAnyH_ready (rs := [10, 12]) (by kernel_rfl) (by simp) ?_
                  refine AllReadyH.cons (List.getElem?_toArray.trans rfl) (fun K3 hK3 => ?_) (AllReadyH.cons (List.getElem?_toArray.trans rfl) (fun K3 hK3 => ?_) AllReadyH.nil)
                  · skip
                    have t3 := oV.sl.text (P := Tryz.prog) Tryz.underlying22 Tryz.underlying5 Tryz.underlying9
                    go_simp
                    refine hK3.out _ _ trivial (fun hHeld3 => ?_)
                    clear hK3 K3
                    refine wpAnyH_ready (rs := [12]) (by kernel_rfl) (by simp) ?_
                    refine AllReadyH.cons (List.getElem?_toArray.trans rfl) (fun K3 hK3 => ?_) AllReadyH.nil
                    go_simp
                    refine ((pl2.below v3b).r.view).mono ?_
                    rintro e v4 ⟨gx, cx, rfl, oX, v4b⟩
                    dsimp only
                    refine hK3.out _ _ trivial (fun hHeld3 => ?_)
                    clear hK3 K3
                    refine wpAnyH_ready (rs := [13]) (by kernel_rfl) (by simp) ?_
                    refine AllReadyH.cons (List.getElem?_toArray.trans rfl) (fun K3 hK3 => ?_) AllReadyH.nil
                    have t4 := oX.sl.text (P := Tryz.prog) Tryz.underlying22 Tryz.underlying5 Tryz.underlying9
                    go_simp
                    refine hK3.out _ _ trivial (fun hHeld3 => ?_)
                    clear hK3 K3
                    refine wpAnyH_take (i := 14) (v := ?_) (List.getElem?_toArray.trans rfl) (by kernel_rfl) (by kernel_rfl) (by kernel_rfl) (fun _ _ _ h => h) (Or.inl ⟨by rfl, ?_⟩) (by assumption) ?_
                    rotate_left
                    · (intro w hSw; skip; go_simp; try (with_reducible rfl))
                    simp only [Act.put, List.setIfInBounds_toArray, List.set_cons_zero, List.set_cons_succ]
                    refine wpAnyH_take (i := 15) (v := ?_) (List.getElem?_toArray.trans rfl) (by kernel_rfl) (by kernel_rfl) (by kernel_rfl) (fun _ _ _ h => h) (Or.inl ⟨by rfl, ?_⟩) (by assumption) ?_
                    rotate_left
                    · (intro w hSw; skip; go_simp; try (with_reducible rfl))
                    simp only [Act.put, List.setIfInBounds_toArray, List.set_cons_zero, List.set_cons_succ]
                    refine wpAnyH_take (i := 16) (v := ?_) (List.getElem?_toArray.trans rfl) (by kernel_rfl) (by kernel_rfl) (by kernel_rfl) (fun _ _ _ h => h) (Or.inl ⟨by rfl, ?_⟩) (by assumption) ?_
                    rotate_left
                    · (intro w hSw; skip; go_simp; try (with_reducible rfl))
                    simp only [Act.put, List.setIfInBounds_toArray, List.set_cons_zero, List.set_cons_succ]
                    refine wpAnyH_take (i := 17) (v := ?_) (List.getElem?_toArray.trans rfl) (by kernel_rfl) (by kernel_rfl) (by kernel_rfl) (fun _ _ _ h => h) (Or.inl ⟨by rfl, ?_⟩) (by assumption) ?_
                    rotate_left
                    · (intro w hSw; skip; go_simp; try (with_reducible rfl))
                    simp only [Act.put, List.setIfInBounds_toArray, List.set_cons_zero, List.set_cons_succ]
                    refine wpAnyH_take (i := 19) (v := ?_) (List.getElem?_toArray.trans rfl) (by kernel_rfl) (by kernel_rfl) (by kernel_rfl) (fun _ _ _ h => h) (Or.inl ⟨by rfl, ?_⟩) (by assumption) ?_
                    rotate_left
                    · (intro w hSw; skip; go_simp; try (with_reducible rfl))
                    simp only [Act.put, List.setIfInBounds_toArray, List.set_cons_zero, List.set_cons_succ]
                    have pl4 := (((pl0.below v1b).below v2b).below v3b).below v4b
                    refine wpAnyH_ready (rs := [18]) (by kernel_rfl) (by simp) ?_
                    refine AllReadyH.cons (List.getElem?_toArray.trans rfl) (fun K3 hK3 => ?_) AllReadyH.nil
                    go_simp
                    refine (down_any pl4.d).mono ?_
                    rintro e w' ⟨rfl, rfl⟩
                    dsimp only
                    refine hK3.out _ _ trivial (fun hHeld3 => ?_)
                    clear hK3 K3
                    refine wpAnyH_ready (rs := [20]) (by kernel_rfl) (by simp) ?_
                    refine AllReadyH.cons (List.getElem?_toArray.trans rfl) (fun K3 hK3 => ?_) AllReadyH.nil
                    go_simp
                    refine (pl4.r.down).mono ?_
                    rintro e w' ⟨rfl, rfl⟩
                    dsimp only
                    refine hK3.out _ _ trivial (fun hHeld3 => ?_)
                    clear hK3 K3
                    refine wpAnyH_take (i := 21) (v := ?_) (List.getElem?_toArray.trans rfl) (by kernel_rfl) (by kernel_rfl) (by kernel_rfl) (fun _ _ _ h => h) (Or.inl ⟨by rfl, ?_⟩) (by assumption) ?_
                    rotate_left
                    · (intro w hSw; skip; go_simp; try (with_reducible rfl))
                    simp only [Act.put, List.setIfInBounds_toArray, List.set_cons_zero, List.set_cons_succ]
                    refine wpAnyH_take (i := 22) (v := ?_) (List.getElem?_toArray.trans rfl) (by kernel_rfl) (by kernel_rfl) (by kernel_rfl) (fun _ _ _ h => h) (Or.inl ⟨by rfl, ?_⟩) (by assumption) ?_
                    rotate_left
                    · (intro w hSw; skip; go_simp; try (with_reducible rfl))
                    simp only [Act.put, List.setIfInBounds_toArray, List.set_cons_zero, List.set_cons_succ]
                    refine wpAnyH_done (by kernel_rfl) ?_ _
                    go_wp2
                    go_roundw
                    case rel => exact ⟨k + 1, F2, G2, S2, hkk, by go_num, hid pl4⟩
                    case measure => simp [RowKit.intOf]; omega
                  · skip
                    go_simp
                    refine ((pl2.below v3b).r.view).mono ?_
                    rintro e v4 ⟨gx, cx, rfl, oX, v4b⟩
                    dsimp only
                    refine hK3.out _ _ trivial (fun hHeld3 => ?_)
                    clear hK3 K3
                    refine wpAnyH_ready (rs := [10, 13]) (by kernel_rfl) (by simp) ?_
                    refine AllReadyH.cons (List.getElem?_toArray.trans rfl) (fun K3 hK3 => ?_) (AllReadyH.cons (List.getElem?_toArray.trans rfl) (fun K3 hK3 => ?_) AllReadyH.nil)
                    · skip
                      have t3 := (oV.below v4b).sl.text (P := Tryz.prog) Tryz.underlying22 Tryz.underlying5 Tryz.underlying9
                      go_simp
                      refine hK3.out _ _ trivial (fun hHeld3 => ?_)
                      clear hK3 K3
                      refine wpAnyH_ready (rs := [13]) (by kernel_rfl) (by simp) ?_
                      refine AllReadyH.cons (List.getElem?_toArray.trans rfl) (fun K3 hK3 => ?_) AllReadyH.nil
                      have t4 := oX.sl.text (P := Tryz.prog) Tryz.underlying22 Tryz.underlying5 Tryz.underlying9
                      go_simp
                      refine hK3.out _ _ trivial (fun hHeld3 => ?_)
                      clear hK3 K3
                      refine wpAnyH_take (i := 14) (v := ?_) (List.getElem?_toArray.trans rfl) (by kernel_rfl) (by kernel_rfl) (by kernel_rfl) (fun _ _ _ h => h) (Or.inl ⟨by rfl, ?_⟩) (by assumption) ?_
                      rotate_left
                      · (intro w hSw; skip; go_simp; try (with_reducible rfl))
                      simp only [Act.put, List.setIfInBounds_toArray, List.set_cons_zero, List.set_cons_succ]
                      refine wpAnyH_take (i := 15) (v := ?_) (List.getElem?_toArray.trans rfl) (by kernel_rfl) (by kernel_rfl) (by kernel_rfl) (fun _ _ _ h => h) (Or.inl ⟨by rfl, ?_⟩) (by assumption) ?_
                      rotate_left
                      · (intro w hSw; skip; go_simp; try (with_reducible rfl))
                      simp only [Act.put, List.setIfInBounds_toArray, List.set_cons_zero, List.set_cons_succ]
                      refine wpAnyH_take (i := 16) (v := ?_) (List.getElem?_toArray.trans rfl) (by kernel_rfl) (by kernel_rfl) (by kernel_rfl) (fun _ _ _ h => h) (Or.inl ⟨by rfl, ?_⟩) (by assumption) ?_
                      rotate_left
                      · (intro w hSw; skip; go_simp; try (with_reducible rfl))
                      simp only [Act.put, List.setIfInBounds_toArray, List.set_cons_zero, List.set_cons_succ]
                      refine wpAnyH_take (i := 17) (v := ?_) (List.getElem?_toArray.trans rfl) (by kernel_rfl) (by kernel_rfl) (by kernel_rfl) (fun _ _ _ h => h) (Or.inl ⟨by rfl, ?_⟩) (by assumption) ?_
                      rotate_left
                      · (intro w hSw; skip; go_simp; try (with_reducible rfl))
                      simp only [Act.put, List.setIfInBounds_toArray, List.set_cons_zero, List.set_cons_succ]
                      refine wpAnyH_take (i := 19) (v := ?_) (List.getElem?_toArray.trans rfl) (by kernel_rfl) (by kernel_rfl) (by kernel_rfl) (fun _ _ _ h => h) (Or.inl ⟨by rfl, ?_⟩) (by assumption) ?_
                      rotate_left
                      · (intro w hSw; skip; go_simp; try (with_reducible rfl))
                      simp only [Act.put, List.setIfInBounds_toArray, List.set_cons_zero, List.set_cons_succ]
                      have pl4 := (((pl0.below v1b).below v2b).below v3b).below v4b
                      refine wpAnyH_ready (rs := [18]) (by kernel_rfl) (by simp) ?_
                      refine AllReadyH.cons (List.getElem?_toArray.trans rfl) (fun K3 hK3 => ?_) AllReadyH.nil
                      go_simp
                      refine (down_any pl4.d).mono ?_
                      rintro e w' ⟨rfl, rfl⟩
                      dsimp only
                      refine hK3.out _ _ trivial (fun hHeld3 => ?_)
                      clear hK3 K3
                      refine wpAnyH_ready (rs := [20]) (by kernel_rfl) (by simp) ?_
                      refine AllReadyH.cons (List.getElem?_toArray.trans rfl) (fun K3 hK3 => ?_) AllReadyH.nil
                      go_simp
                      refine (pl4.r.down).mono ?_
                      rintro e w' ⟨rfl, rfl⟩
                      dsimp only
                      refine hK3.out _ _ trivial (fun hHeld3 => ?_)
                      clear hK3 K3
                      refine wpAnyH_take (i := 21) (v := ?_) (List.getElem?_toArray.trans rfl) (by kernel_rfl) (by kernel_rfl) (by kernel_rfl) (fun _ _ _ h => h) (Or.inl ⟨by rfl, ?_⟩) (by assumption) ?_
                      rotate_left
                      · (intro w hSw; skip; go_simp; try (with_reducible rfl))
                      simp only [Act.put, List.setIfInBounds_toArray, List.set_cons_zero, List.set_cons_succ]
                      refine wpAnyH_take (i := 22) (v := ?_) (List.getElem?_toArray.trans rfl) (by kernel_rfl) (by kernel_rfl) (by kernel_rfl) (fun _ _ _ h => h) (Or.inl ⟨by rfl, ?_⟩) (by assumption) ?_
                      rotate_left
                      · (intro w hSw; skip; go_simp; try (with_reducible rfl))
                      simp only [Act.put, List.setIfInBounds_toArray, List.set_cons_zero, List.set_cons_succ]
                      refine wpAnyH_done (by kernel_rfl) ?_ _
                      go_wp2
                      go_roundw
                      case rel => exact ⟨k + 1, F2, G2, S2, hkk, by go_num, hid pl4⟩
                      case measure => simp [RowKit.intOf]; omega
                    · skip
                      have t4 := oX.sl.text (P := Tryz.prog) Tryz.underlying22 Tryz.underlying5 Tryz.underlying9
                      go_simp
                      refine hK3.out _ _ trivial (fun hHeld3 => ?_)
                      clear hK3 K3
                      refine wpAnyH_ready (rs := [10]) (by kernel_rfl) (by simp) ?_
                      refine AllReadyH.cons (List.getElem?_toArray.trans rfl) (fun K3 hK3 => ?_) AllReadyH.nil
                      have t3 := (oV.below v4b).sl.text (P := Tryz.prog) Tryz.underlying22 Tryz.underlying5 Tryz.underlying9
                      go_simp
                      refine hK3.out _ _ trivial (fun hHeld3 => ?_)
                      clear hK3 K3
                      refine wpAnyH_take (i := 14) (v := ?_) (List.getElem?_toArray.trans rfl) (by kernel_rfl) (by kernel_rfl) (by kernel_rfl) (fun _ _ _ h => h) (Or.inl ⟨by rfl, ?_⟩) (by assumption) ?_
                      rotate_left
                      · (intro w hSw; skip; go_simp; try (with_reducible rfl))
                      simp only [Act.put, List.setIfInBounds_toArray, List.set_cons_zero, List.set_cons_succ]
                      refine wpAnyH_take (i := 15) (v := ?_) (List.getElem?_toArray.trans rfl) (by kernel_rfl) (by kernel_rfl) (by kernel_rfl) (fun _ _ _ h => h) (Or.inl ⟨by rfl, ?_⟩) (by assumption) ?_
                      rotate_left
                      · (intro w hSw; skip; go_simp; try (with_reducible rfl))
                      simp only [Act.put, List.setIfInBounds_toArray, List.set_cons_zero, List.set_cons_succ]
                      refine wpAnyH_take (i := 16) (v := ?_) (List.getElem?_toArray.trans rfl) (by kernel_rfl) (by kernel_rfl) (by kernel_rfl) (fun _ _ _ h => h) (Or.inl ⟨by rfl, ?_⟩) (by assumption) ?_
                      rotate_left
                      · (intro w hSw; skip; go_simp; try (with_reducible rfl))
                      simp only [Act.put, List.setIfInBounds_toArray, List.set_cons_zero, List.set_cons_succ]
                      refine wpAnyH_take (i := 17) (v := ?_) (List.getElem?_toArray.trans rfl) (by kernel_rfl) (by kernel_rfl) (by kernel_rfl) (fun _ _ _ h => h) (Or.inl ⟨by rfl, ?_⟩) (by assumption) ?_
                      rotate_left
                      · (intro w hSw; skip; go_simp; try (with_reducible rfl))
                      simp only [Act.put, List.setIfInBounds_toArray, List.set_cons_zero, List.set_cons_succ]
                      refine wpAnyH_take (i := 19) (v := ?_) (List.getElem?_toArray.trans rfl) (by kernel_rfl) (by kernel_rfl) (by kernel_rfl) (fun _ _ _ h => h) (Or.inl ⟨by rfl, ?_⟩) (by assumption) ?_
                      rotate_left
                      · (intro w hSw; skip; go_simp; try (with_reducible rfl))
                      simp only [Act.put, List.setIfInBounds_toArray, List.set_cons_zero, List.set_cons_succ]
                      have pl4 := (((pl0.below v1b).below v2b).below v3b).below v4b
                      refine wpAnyH_ready (rs := [18]) (by kernel_rfl) (by simp) ?_
                      refine AllReadyH.cons (List.getElem?_toArray.trans rfl) (fun K3 hK3 => ?_) AllReadyH.nil
                      go_simp
                      refine (down_any pl4.d).mono ?_
                      rintro e w' ⟨rfl, rfl⟩
                      dsimp only
                      refine hK3.out _ _ trivial (fun hHeld3 => ?_)
                      clear hK3 K3
                      refine wpAnyH_ready (rs := [20]) (by kernel_rfl) (by simp) ?_
                      refine AllReadyH.cons (List.getElem?_toArray.trans rfl) (fun K3 hK3 => ?_) AllReadyH.nil
                      go_simp
                      refine (pl4.r.down).mono ?_
                      rintro e w' ⟨rfl, rfl⟩
                      dsimp only
                      refine hK3.out _ _ trivial (fun hHeld3 => ?_)
                      clear hK3 K3
                      refine wpAnyH_take (i := 21) (v := ?_) (List.getElem?_toArray.trans rfl) (by kernel_rfl) (by kernel_rfl) (by kernel_rfl) (fun _ _ _ h => h) (Or.inl ⟨by rfl, ?_⟩) (by assumption) ?_
                      rotate_left
                      · (intro w hSw; skip; go_simp; try (with_reducible rfl))
                      simp only [Act.put, List.setIfInBounds_toArray, List.set_cons_zero, List.set_cons_succ]
                      refine wpAnyH_take (i := 22) (v := ?_) (List.getElem?_toArray.trans rfl) (by kernel_rfl) (by kernel_rfl) (by kernel_rfl) (fun _ _ _ h => h) (Or.inl ⟨by rfl, ?_⟩) (by assumption) ?_
                      rotate_left
                      · (intro w hSw; skip; go_simp; try (with_reducible rfl))
                      simp only [Act.put, List.setIfInBounds_toArray, List.set_cons_zero, List.set_cons_succ]
                      refine wpAnyH_done (by kernel_rfl) ?_ _
                      go_wp2
                      go_roundw
                      case rel => exact ⟨k + 1, F2, G2, S2, hkk, by go_num, hid pl4⟩
                      case measure => simp [RowKit.intOf]; omega
                · skip
                  have t2 := oJ.sl.text (P := Tryz.prog) Tryz.underlying22 Tryz.underlying5 Tryz.underlying9
                  go_simp
                  refine hK3.out _ _ trivial (fun hHeld3 => ?_)
                  clear hK3 K3
                  refine wpAnyH_ready (rs := [2]) (by kernel_rfl) (by simp) ?_
                  refine AllReadyH.cons (List.getElem?_toArray.trans rfl) (fun K3 hK3 => ?_) AllReadyH.nil
                  have t1 := (oI.below v2b).sl.text (P := Tryz.prog) Tryz.underlying22 Tryz.underlying5 Tryz.underlying9
                  go_simp
                  refine hK3.out _ _ trivial (fun hHeld3 => ?_)
                  clear hK3 K3
                  refine wpAnyH_take (i := 6) (v := ?_) (List.getElem?_toArray.trans rfl) (by kernel_rfl) (by kernel_rfl) (by kernel_rfl) (fun _ _ _ h => h) (Or.inl ⟨by rfl, ?_⟩) (by assumption) ?_
                  rotate_left
                  · (intro w hSw; skip; go_simp; try (with_reducible rfl))
                  simp only [Act.put, List.setIfInBounds_toArray, List.set_cons_zero, List.set_cons_succ]
                  refine wpAnyH_take (i := 7) (v := ?_) (List.getElem?_toArray.trans rfl) (by kernel_rfl) (by kernel_rfl) (by kernel_rfl) (fun _ _ _ h => h) (Or.inl ⟨by rfl, ?_⟩) (by assumption) ?_
                  rotate_left
                  · (intro w hSw; skip; go_simp; try (with_reducible rfl))
                  simp only [Act.put, List.setIfInBounds_toArray, List.set_cons_zero, List.set_cons_succ]
                  refine wpAnyH_take (i := 8) (v := ?_) (List.getElem?_toArray.trans rfl) (by kernel_rfl) (by kernel_rfl) (by kernel_rfl) (fun _ _ _ h => h) (Or.inl ⟨by rfl, ?_⟩) (by assumption) ?_
                  rotate_left
                  · (intro w hSw; skip; go_simp; try (with_reducible rfl))
                  simp only [Act.put, List.setIfInBounds_toArray, List.set_cons_zero, List.set_cons_succ]
                  refine wpAnyH_take (i := 11) (v := ?_) (List.getElem?_toArray.trans rfl) (by kernel_rfl) (by kernel_rfl) (by kernel_rfl) (fun _ _ _ h => h) (Or.inl ⟨by rfl, ?_⟩) (by assumption) ?_
                  rotate_left
                  · (intro w hSw; skip; go_simp; try (with_reducible rfl))
                  simp only [Act.put, List.setIfInBounds_toArray, List.set_cons_zero, List.set_cons_succ]
                  have pl2 := (pl0.below v1b).below v2b
                  have cV := view_any pl2.d
                  refine wpAnyH_ready (rs := [9]) (by kernel_rfl) (by simp) ?_
                  refine AllReadyH.cons (List.getElem?_toArray.trans rfl) (fun K3 hK3 => ?_) AllReadyH.nil
                  go_simp
                  refine (cV).mono ?_
                  rintro e v3 ⟨gv, cv, rfl, oV, v3b⟩
                  dsimp only
                  refine hK3.out _ _ trivial (fun hHeld3 => ?_)
                  clear hK3 K3
                  refine wpAnyH_ready (rs := [10, 12]) (by kernel_rfl) (by simp) ?_
                  refine AllReadyH.cons (List.getElem?_toArray.trans rfl) (fun K3 hK3 => ?_) (AllReadyH.cons (List.getElem?_toArray.trans rfl) (fun K3 hK3 => ?_) AllReadyH.nil)
                  · skip
                    have t3 := oV.sl.text (P := Tryz.prog) Tryz.underlying22 Tryz.underlying5 Tryz.underlying9
                    go_simp
                    refine hK3.out _ _ trivial (fun hHeld3 => ?_)
                    clear hK3 K3
                    refine wpAnyH_ready (rs := [12]) (by kernel_rfl) (by simp) ?_
                    refine AllReadyH.cons (List.getElem?_toArray.trans rfl) (fun K3 hK3 => ?_) AllReadyH.nil
                    go_simp
                    refine ((pl2.below v3b).r.view).mono ?_
                    rintro e v4 ⟨gx, cx, rfl, oX, v4b⟩
                    dsimp only
                    refine hK3.out _ _ trivial (fun hHeld3 => ?_)
                    clear hK3 K3
                    refine wpAnyH_ready (rs := [13]) (by kernel_rfl) (by simp) ?_
                    refine AllReadyH.cons (List.getElem?_toArray.trans rfl) (fun K3 hK3 => ?_) AllReadyH.nil
                    have t4 := oX.sl.text (P := Tryz.prog) Tryz.underlying22 Tryz.underlying5 Tryz.underlying9
                    go_simp
                    refine hK3.out _ _ trivial (fun hHeld3 => ?_)
                    clear hK3 K3
                    refine wpAnyH_take (i := 14) (v := ?_) (List.getElem?_toArray.trans rfl) (by kernel_rfl) (by kernel_rfl) (by kernel_rfl) (fun _ _ _ h => h) (Or.inl ⟨by rfl, ?_⟩) (by assumption) ?_
                    rotate_left
                    · (intro w hSw; skip; go_simp; try (with_reducible rfl))
                    simp only [Act.put, List.setIfInBounds_toArray, List.set_cons_zero, List.set_cons_succ]
                    refine wpAnyH_take (i := 15) (v := ?_) (List.getElem?_toArray.trans rfl) (by kernel_rfl) (by kernel_rfl) (by kernel_rfl) (fun _ _ _ h => h) (Or.inl ⟨by rfl, ?_⟩) (by assumption) ?_
                    rotate_left
                    · (intro w hSw; skip; go_simp; try (with_reducible rfl))
                    simp only [Act.put, List.setIfInBounds_toArray, List.set_cons_zero, List.set_cons_succ]
                    refine wpAnyH_take (i := 16) (v := ?_) (List.getElem?_toArray.trans rfl) (by kernel_rfl) (by kernel_rfl) (by kernel_rfl) (fun _ _ _ h => h) (Or.inl ⟨by rfl, ?_⟩) (by assumption) ?_
                    rotate_left
                    · (intro w hSw; skip; go_simp; try (with_reducible rfl))
                    simp only [Act.put, List.setIfInBounds_toArray, List.set_cons_zero, List.set_cons_succ]
                    refine wpAnyH_take (i := 17) (v := ?_) (List.getElem?_toArray.trans rfl) (by kernel_rfl) (by kernel_rfl) (by kernel_rfl) (fun _ _ _ h => h) (Or.inl ⟨by rfl, ?_⟩) (by assumption) ?_
                    rotate_left
                    · (intro w hSw; skip; go_simp; try (with_reducible rfl))
                    simp only [Act.put, List.setIfInBounds_toArray, List.set_cons_zero, List.set_cons_succ]
                    refine wpAnyH_take (i := 19) (v := ?_) (List.getElem?_toArray.trans rfl) (by kernel_rfl) (by kernel_rfl) (by kernel_rfl) (fun _ _ _ h => h) (Or.inl ⟨by rfl, ?_⟩) (by assumption) ?_
                    rotate_left
                    · (intro w hSw; skip; go_simp; try (with_reducible rfl))
                    simp only [Act.put, List.setIfInBounds_toArray, List.set_cons_zero, List.set_cons_succ]
                    have pl4 := (((pl0.below v1b).below v2b).below v3b).below v4b
                    refine wpAnyH_ready (rs := [18]) (by kernel_rfl) (by simp) ?_
                    refine AllReadyH.cons (List.getElem?_toArray.trans rfl) (fun K3 hK3 => ?_) AllReadyH.nil
                    go_simp
                    refine (down_any pl4.d).mono ?_
                    rintro e w' ⟨rfl, rfl⟩
                    dsimp only
                    refine hK3.out _ _ trivial (fun hHeld3 => ?_)
                    clear hK3 K3
                    refine wpAnyH_ready (rs := [20]) (by kernel_rfl) (by simp) ?_
                    refine AllReadyH.cons (List.getElem?_toArray.trans rfl) (fun K3 hK3 => ?_) AllReadyH.nil
                    go_simp
                    refine (pl4.r.down).mono ?_
                    rintro e w' ⟨rfl, rfl⟩
                    dsimp only
                    refine hK3.out _ _ trivial (fun hHeld3 => ?_)
                    clear hK3 K3
                    refine wpAnyH_take (i := 21) (v := ?_) (List.getElem?_toArray.trans rfl) (by kernel_rfl) (by kernel_rfl) (by kernel_rfl) (fun _ _ _ h => h) (Or.inl ⟨by rfl, ?_⟩) (by assumption) ?_
                    rotate_left
                    · (intro w hSw; skip; go_simp; try (with_reducible rfl))
                    simp only [Act.put, List.setIfInBounds_toArray, List.set_cons_zero, List.set_cons_succ]
                    refine wpAnyH_take (i := 22) (v := ?_) (List.getElem?_toArray.trans rfl) (by kernel_rfl) (by kernel_rfl) (by kernel_rfl) (fun _ _ _ h => h) (Or.inl ⟨by rfl, ?_⟩) (by assumption) ?_
                    rotate_left
                    · (intro w hSw; skip; go_simp; try (with_reducible rfl))
                    simp only [Act.put, List.setIfInBounds_toArray, List.set_cons_zero, List.set_cons_succ]
                    refine wpAnyH_done (by kernel_rfl) ?_ _
                    go_wp2
                    go_roundw
                    case rel => exact ⟨k + 1, F2, G2, S2, hkk, by go_num, hid pl4⟩
                    case measure => simp [RowKit.intOf]; omega
                  · skip
                    go_simp
                    refine ((pl2.below v3b).r.view).mono ?_
                    rintro e v4 ⟨gx, cx, rfl, oX, v4b⟩
                    dsimp only
                    refine hK3.out _ _ trivial (fun hHeld3 => ?_)
                    clear hK3 K3
                    refine wpAnyH_ready (rs := [10, 13]) (by kernel_rfl) (by simp) ?_
                    refine AllReadyH.cons (List.getElem?_toArray.trans rfl) (fun K3 hK3 => ?_) (AllReadyH.cons (List.getElem?_toArray.trans rfl) (fun K3 hK3 => ?_) AllReadyH.nil)
                    · skip
                      have t3 := (oV.below v4b).sl.text (P := Tryz.prog) Tryz.underlying22 Tryz.underlying5 Tryz.underlying9
                      go_simp
                      refine hK3.out _ _ trivial (fun hHeld3 => ?_)
                      clear hK3 K3
                      refine wpAnyH_ready (rs := [13]) (by kernel_rfl) (by simp) ?_
                      refine AllReadyH.cons (List.getElem?_toArray.trans rfl) (fun K3 hK3 => ?_) AllReadyH.nil
                      have t4 := oX.sl.text (P := Tryz.prog) Tryz.underlying22 Tryz.underlying5 Tryz.underlying9
                      go_simp
                      refine hK3.out _ _ trivial (fun hHeld3 => ?_)
                      clear hK3 K3
                      refine wpAnyH_take (i := 14) (v := ?_) (List.getElem?_toArray.trans rfl) (by kernel_rfl) (by kernel_rfl) (by kernel_rfl) (fun _ _ _ h => h) (Or.inl ⟨by rfl, ?_⟩) (by assumption) ?_
                      rotate_left
                      · (intro w hSw; skip; go_simp; try (with_reducible rfl))
                      simp only [Act.put, List.setIfInBounds_toArray, List.set_cons_zero, List.set_cons_succ]
                      refine wpAnyH_take (i := 15) (v := ?_) (List.getElem?_toArray.trans rfl) (by kernel_rfl) (by kernel_rfl) (by kernel_rfl) (fun _ _ _ h => h) (Or.inl ⟨by rfl, ?_⟩) (by assumption) ?_
                      rotate_left
                      · (intro w hSw; skip; go_simp; try (with_reducible rfl))
                      simp only [Act.put, List.setIfInBounds_toArray, List.set_cons_zero, List.set_cons_succ]
                      refine wpAnyH_take (i := 16) (v := ?_) (List.getElem?_toArray.trans rfl) (by kernel_rfl) (by kernel_rfl) (by kernel_rfl) (fun _ _ _ h => h) (Or.inl ⟨by rfl, ?_⟩) (by assumption) ?_
                      rotate_left
                      · (intro w hSw; skip; go_simp; try (with_reducible rfl))
                      simp only [Act.put, List.setIfInBounds_toArray, List.set_cons_zero, List.set_cons_succ]
                      refine wpAnyH_take (i := 17) (v := ?_) (List.getElem?_toArray.trans rfl) (by kernel_rfl) (by kernel_rfl) (by kernel_rfl) (fun _ _ _ h => h) (Or.inl ⟨by rfl, ?_⟩) (by assumption) ?_
                      rotate_left
                      · (intro w hSw; skip; go_simp; try (with_reducible rfl))
                      simp only [Act.put, List.setIfInBounds_toArray, List.set_cons_zero, List.set_cons_succ]
                      refine wpAnyH_take (i := 19) (v := ?_) (List.getElem?_toArray.trans rfl) (by kernel_rfl) (by kernel_rfl) (by kernel_rfl) (fun _ _ _ h => h) (Or.inl ⟨by rfl, ?_⟩) (by assumption) ?_
                      rotate_left
                      · (intro w hSw; skip; go_simp; try (with_reducible rfl))
                      simp only [Act.put, List.setIfInBounds_toArray, List.set_cons_zero, List.set_cons_succ]
                      have pl4 := (((pl0.below v1b).below v2b).below v3b).below v4b
                      refine wpAnyH_ready (rs := [18]) (by kernel_rfl) (by simp) ?_
                      refine AllReadyH.cons (List.getElem?_toArray.trans rfl) (fun K3 hK3 => ?_) AllReadyH.nil
                      go_simp
                      refine (down_any pl4.d).mono ?_
                      rintro e w' ⟨rfl, rfl⟩
                      dsimp only
                      refine hK3.out _ _ trivial (fun hHeld3 => ?_)
                      clear hK3 K3
                      refine wpAnyH_ready (rs := [20]) (by kernel_rfl) (by simp) ?_
                      refine AllReadyH.cons (List.getElem?_toArray.trans rfl) (fun K3 hK3 => ?_) AllReadyH.nil
                      go_simp
                      refine (pl4.r.down).mono ?_
                      rintro e w' ⟨rfl, rfl⟩
                      dsimp only
                      refine hK3.out _ _ trivial (fun hHeld3 => ?_)
                      clear hK3 K3
                      refine wpAnyH_take (i := 21) (v := ?_) (List.getElem?_toArray.trans rfl) (by kernel_rfl) (by kernel_rfl) (by kernel_rfl) (fun _ _ _ h => h) (Or.inl ⟨by rfl, ?_⟩) (by assumption) ?_
                      rotate_left
                      · (intro w hSw; skip; go_simp; try (with_reducible rfl))
                      simp only [Act.put, List.setIfInBounds_toArray, List.set_cons_zero, List.set_cons_succ]
                      refine wpAnyH_take (i := 22) (v := ?_) (List.getElem?_toArray.trans rfl) (by kernel_rfl) (by kernel_rfl) (by kernel_rfl) (fun _ _ _ h => h) (Or.inl ⟨by rfl, ?_⟩) (by assumption) ?_
                      rotate_left
                      · (intro w hSw; skip; go_simp; try (with_reducible rfl))
                      simp only [Act.put, List.setIfInBounds_toArray, List.set_cons_zero, List.set_cons_succ]
                      refine wpAnyH_done (by kernel_rfl) ?_ _
                      go_wp2
                      go_roundw
                      case rel => exact ⟨k + 1, F2, G2, S2, hkk, by go_num, hid pl4⟩
                      case measure => simp [RowKit.intOf]; omega
                    · skip
                      have t4 := oX.sl.text (P := Tryz.prog) Tryz.underlying22 Tryz.underlying5 Tryz.underlying9
                      go_simp
                      refine hK3.out _ _ trivial (fun hHeld3 => ?_)
                      clear hK3 K3
                      refine wpAnyH_ready (rs := [10]) (by kernel_rfl) (by simp) ?_
                      refine AllReadyH.cons (List.getElem?_toArray.trans rfl) (fun K3 hK3 => ?_) AllReadyH.nil
                      have t3 := (oV.below v4b).sl.text (P := Tryz.prog) Tryz.underlying22 Tryz.underlying5 Tryz.underlying9
                      go_simp
                      refine hK3.out _ _ trivial (fun hHeld3 => ?_)
                      clear hK3 K3
                      refine wpAnyH_take (i := 14) (v := ?_) (List.getElem?_toArray.trans rfl) (by kernel_rfl) (by kernel_rfl) (by kernel_rfl) (fun _ _ _ h => h) (Or.inl ⟨by rfl, ?_⟩) (by assumption) ?_
                      rotate_left
                      · (intro w hSw; skip; go_simp; try (with_reducible rfl))
                      simp only [Act.put, List.setIfInBounds_toArray, List.set_cons_zero, List.set_cons_succ]
                      refine wpAnyH_take (i := 15) (v := ?_) (List.getElem?_toArray.trans rfl) (by kernel_rfl) (by kernel_rfl) (by kernel_rfl) (fun _ _ _ h => h) (Or.inl ⟨by rfl, ?_⟩) (by assumption) ?_
                      rotate_left
                      · (intro w hSw; skip; go_simp; try (with_reducible rfl))
                      simp only [Act.put, List.setIfInBounds_toArray, List.set_cons_zero, List.set_cons_succ]
                      refine wpAnyH_take (i := 16) (v := ?_) (List.getElem?_toArray.trans rfl) (by kernel_rfl) (by kernel_rfl) (by kernel_rfl) (fun _ _ _ h => h) (Or.inl ⟨by rfl, ?_⟩) (by assumption) ?_
                      rotate_left
                      · (intro w hSw; skip; go_simp; try (with_reducible rfl))
                      simp only [Act.put, List.setIfInBounds_toArray, List.set_cons_zero, List.set_cons_succ]
                      refine wpAnyH_take (i := 17) (v := ?_) (List.getElem?_toArray.trans rfl) (by kernel_rfl) (by kernel_rfl) (by kernel_rfl) (fun _ _ _ h => h) (Or.inl ⟨by rfl, ?_⟩) (by assumption) ?_
                      rotate_left
                      · (intro w hSw; skip; go_simp; try (with_reducible rfl))
                      simp only [Act.put, List.setIfInBounds_toArray, List.set_cons_zero, List.set_cons_succ]
                      refine wpAnyH_take (i := 19) (v := ?_) (List.getElem?_toArray.trans rfl) (by kernel_rfl) (by kernel_rfl) (by kernel_rfl) (fun _ _ _ h => h) (Or.inl ⟨by rfl, ?_⟩) (by assumption) ?_
                      rotate_left
                      · (intro w hSw; skip; go_simp; try (with_reducible rfl))
                      simp only [Act.put, List.setIfInBounds_toArray, List.set_cons_zero, List.set_cons_succ]
                      have pl4 := (((pl0.below v1b).below v2b).below v3b).below v4b
                      refine wpAnyH_ready (rs := [18]) (by kernel_rfl) (by simp) ?_
                      refine AllReadyH.cons (List.getElem?_toArray.trans rfl) (fun K3 hK3 => ?_) AllReadyH.nil
                      go_simp
                      refine (down_any pl4.d).mono ?_
                      rintro e w' ⟨rfl, rfl⟩
                      dsimp only
                      refine hK3.out _ _ trivial (fun hHeld3 => ?_)
                      clear hK3 K3
                      refine wpAnyH_ready (rs := [20]) (by kernel_rfl) (by simp) ?_
                      refine AllReadyH.cons (List.getElem?_toArray.trans rfl) (fun K3 hK3 => ?_) AllReadyH.nil
                      go_simp
                      refine (pl4.r.down).mono ?_
                      rintro e w' ⟨rfl, rfl⟩
                      dsimp only
                      refine hK3.out _ _ trivial (fun hHeld3 => ?_)
                      clear hK3 K3
                      refine wpAnyH_take (i := 21) (v := ?_) (List.getElem?_toArray.trans rfl) (by kernel_rfl) (by kernel_rfl) (by kernel_rfl) (fun _ _ _ h => h) (Or.inl ⟨by rfl, ?_⟩) (by assumption) ?_
                      rotate_left
                      · (intro w hSw; skip; go_simp; try (with_reducible rfl))
                      simp only [Act.put, List.setIfInBounds_toArray, List.set_cons_zero, List.set_cons_succ]
                      refine wpAnyH_take (i := 22) (v := ?_) (List.getElem?_toArray.trans rfl) (by kernel_rfl) (by kernel_rfl) (by kernel_rfl) (fun _ _ _ h => h) (Or.inl ⟨by rfl, ?_⟩) (by assumption) ?_
                      rotate_left
                      · (intro w hSw; skip; go_simp; try (with_reducible rfl))
                      simp only [Act.put, List.setIfInBounds_toArray, List.set_cons_zero, List.set_cons_succ]
                      refine wpAnyH_done (by kernel_rfl) ?_ _
                      go_wp2
                      go_roundw
                      case rel => exact ⟨k + 1, F2, G2, S2, hkk, by go_num, hid pl4⟩
                      case measure => simp [RowKit.intOf]; omega
        · have hk20' : ¬ ((k : Int) < 20) := by omega
          have HB := hid (next HW.out.1 HP.out.bel)
          go_wp2
          go_ret
          exact ⟨rfl, HB.out⟩
      · have hkl' : ¬ ((k : Int) < (pn : Int)) := by omega
        have HB := hid (next HW.out.1 HP.out.bel)
        go_wp2
        go_ret
        exact ⟨rfl, HB.out⟩
end Go.Proofs.YtgiippbjieecmaaGreat
