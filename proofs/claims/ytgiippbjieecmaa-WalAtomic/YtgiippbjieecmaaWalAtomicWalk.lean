/- 'WalAtomic': the walk. -/
import Derived.Test.YtgiippbjieecmaaAtomOff
namespace Go.Proofs.Ytgiippbjieecmaa
set_option maxRecDepth 100000
open Go.RowKit
set_option linter.unusedVariables false

set_option maxHeartbeats 12800000 in
theorem walAtomic_walk (w : World) (a0 : Option Addr) (n cap : Nat) (z : List Int) (s0 : Sl .u8 w a0 n cap z) (f0 : ∀ x ∈ z, (Lit.int .u8 x).wf = true) (c0 : cap * 1 ≤ 140737488351232) (M F R : Int) (hg : (Lg.mk M F R).Ok) (lo : Option Addr) (m lc : Nat) (hv : lo = none → lc = 0 ∧ m = 0) (D : Nat → ChD) (h : Chs w lo m D) (A : FallD) (hA : FallOk w A) (fo : Option Addr) (fl fc : Nat) (E : Nat → FallD) (hF : Falls w fo fl E) :
    Calls Try.prog 5 #[.slice a0 n cap, .agg #[.int .i64 M, .int .i64 F, .int .i64 R], .slice lo m lc, .agg #[.int .i64 A.n, .slice A.ka A.kl A.kc], .slice fo fl fc] w fun e w' => e = .returned (.bool true) ∧ Below w.heap.size w w' := by
  have hroom := s0.room
  have hlen := s0.len
  cases hB : atomOk n m D ⟨M, F, R⟩ with
  | false => exact atom_off w a0 n cap z s0 f0 c0 M F R hg lo m lc hv D h A hA fo fl fc E hF hB
  | true =>
    have hby : Bytes z := bytes_wf f0
    have HA := hid (args_new (M := M) (F1 := F) (R := R) s0 h hA hF)
    have cS := wsmall_any ((w.alloc (.cells #[.int .i64 M, .int .i64 F, .int .i64 R] 23)).alloc (.cells #[.int .i64 A.n, .slice A.ka A.kl A.kc] 44))
    have hm9 := h.fit
    have hk9 := hA.k9
    have hfl9 := hF.m
    have rgA := hA.n
    have hcb : ∀ c ∈ saysN D m, Bytes c.2 := fun c hc => by
      unfold saysN at hc
      rw [List.mem_map] at hc
      obtain ⟨i, hi, rfl⟩ := hc
      exact (h.ok i (by simpa using hi)).by_
    unfold atomOk at hB
    simp only [Bool.and_eq_true, decide_eq_true_eq] at hB
    obtain ⟨hf, h1, h2, h3⟩ := hB
    have eq : (n : Int) / 64 = ((n / 64 : Nat) : Int) := by omega
    have rg : Rg ((n / 64 : Nat) : Int) := by unfold Rg; omega
    have h1' : ¬ ((4096 : Int) < (n : Int)) := by omega
    have h2' : ((n : Int) % 64 != 0) = false := by simp; omega
    have hG := rightG_iff.1 h3
    have g1 := hG.m0
    have g2 := hG.m1
    simp only at g1 g2
    obtain ⟨mk, rfl⟩ : ∃ mk : Nat, M = mk := ⟨M.toNat, by omega⟩
    have k2 : 64 * mk + 64 ≤ n := by omega
    have hnew : newOk n = true := by unfold newOk; simp; omega
    obtain ⟨N, hN⟩ : ∃ N, N = n / 64 := ⟨_, rfl⟩
    rw [← hN] at eq rg h3 hG
    have hnN : n = 64 * N := by omega
    have HZ := hid (And.intro hlen (And.intro hby (And.intro hnN (And.intro hcb (And.intro hG h2)))))
    have hN4 : N ≤ 64 := by omega
    have hn8 : n ≤ 8192 := by omega
    have hn9 : n ≤ 140737488355328 := by omega
    clear s0 h hA hF hlen hby h1 h2 g1 g2 hnN hN hcb hG f0
    go_enter Try.func5, Try.ntmps5
    go_wp2_with (first
      | (go_at_call 8; with_reducible refine cS.mono ?_; rintro e w1 ⟨rfl, hb1⟩; have a1 := HA.out.1.below hb1; have bw1 := next HA.out.2 hb1; have l1 := a1.lg; obtain ⟨c0, c1, c2⟩ := And.intro l1.c0 (And.intro l1.c1 l1.c2); have cF := few_any lo m lc D w1 a1.ch; rw [hf] at cF; have HA1 := hid (And.intro a1 bw1); clear l1 a1 bw1; have cR := refwright_any mk F R (N : Int) w1 hg rg; rw [h3] at cR)
      | (go_at_call 9; with_reducible refine cF.mono ?_; rintro e w2 ⟨rfl, rfl⟩)
      | (go_at_call 14; with_reducible refine cR.mono ?_; rintro e w2 ⟨rfl, hb2⟩; have a2 := HA1.out.1.below hb2; have bw2 := next HA1.out.2 hb2; have HA2 := hid (And.intro a2 bw2)))
    clear hb1 hb2 a2 bw2 HA HA1 cS cF cR c0 c1 c2
    go_loop [14] (fun t => ∃ k : Nat, k ≤ 64 ∧ t = .int .i64 k ∧ Hid (∀ j, j < k → z.getD (64 * mk + j) 0 = 0)) (fun t => 64 - (RowKit.intOf t).toNat)
    case atStart => exact ⟨0, Nat.zero_le _, rfl, hid (fun j hj => absurd hj (by omega))⟩
    case round =>
      obtain ⟨k, hk, rfl, HK⟩ := hrel
      by_cases hlt : k < 64
      · have hki : (k : Int) < 64 := by omega
        obtain ⟨zv, hzv⟩ : ∃ zv, z.getD (64 * mk + k) 0 = zv := ⟨_, rfl⟩
        obtain ⟨b, off, rfl, _, hcz⟩ := HA2.out.1.im.here (by omega)
        have cZ : w2.cell? ⟨b, off + (64 * mk + k), none⟩ = some (.int .u8 zv) := by rw [← hzv]; exact hcz (64 * mk + k) (by omega)
        have cL := HA2.out.1.lg.c0
        have b0 : (0 : Int) ≤ 64 * (mk : Int) + (k : Int) := by omega
        have b1 : 64 * (mk : Int) + (k : Int) < (n : Int) := by omega
        have wr1 : IntKind.i64.wrap (64 * (mk : Int)) = 64 * (mk : Int) := wrap64_small (by omega) (by omega)
        have wr2 : IntKind.i64.wrap (64 * (mk : Int) + (k : Int)) = 64 * (mk : Int) + (k : Int) := wrap64_small (by omega) (by omega)
        have wr3 : (64 * (mk : Int) + (k : Int)).toNat = 64 * mk + k := by omega
        by_cases hz0 : zv = 0
        · have HK1 : Hid (∀ j, j < k + 1 → z.getD (64 * mk + j) 0 = 0) := fun j hj => by
            by_cases e : j = k
            · rw [e, hzv, hz0]
            · exact HK.out j (by omega)
          clear hcz hzv
          subst hz0
          go_wp2
          go_round
          case rel => exact ⟨k + 1, by omega, by go_num, HK1⟩
          case measure => simp [RowKit.intOf]; omega
        · have hz1 : (zv != 0) = true := by simpa using hz0
          clear hcz hzv
          go_wp2
          go_ret
          exact ⟨rfl, HA2.out.2⟩
      · obtain rfl : k = 64 := by omega
        obtain ⟨z1, z2, z3, z4, z5, z6⟩ := HZ.out
        have hmz := mark_zeros z1 k2 HK.out
        have hz7 : z.length % 64 = 0 := by rw [z1]; exact z6
        have hcl : Cl z { St.new z with armed := max A.n 0 } := ⟨rfl, (Cl.new hz7).nn, fun _ => rfl⟩
        have hup : Up { St.new z with armed := max A.n 0 } := ⟨rfl, by show 0 ≤ max A.n 0; omega⟩
        have hcm := commit_may (n := N) (g := ⟨mk, F, R⟩) (z := z) (l := saysN D m) (S := { St.new z with armed := max A.n 0 }) (by rw [z1, z3]) (by omega) z5 z4 hmz hcl hup
        have cN := new_good a0 n cap z w2 HA2.out.1.im z2 hnew
        have HCL := hid hcl
        have HSE : Hid (∀ w' : World, Below w2.heap.size w2 w' → w'.cell? ⟨w.heap.size + 1, 0, none⟩ = some (.int .i64 A.n)) := fun w' hb => (HA2.out.1.below hb).f0
        clear hcl hup z1 z2 z3 z4 z5 z6 hz7 hmz HK hlt hk
        rcases hcm with ⟨he, hs⟩ | ⟨he, C, h0, hcr⟩
        · rcases he with he | he
          · have hs' := hs
            go_wp2_with (first
              | (go_at_call 23; with_reducible refine cN.mono ?_; rintro e w3 ⟨p, F3, rfl, d3, n3, b3⟩; have s3 : Sat w2 w3 F3 p (St.new z) := ⟨d3, n3, b3⟩; have cA := s3.arm A.n rgA; have cf := HSE.out w3 b3; clear d3 n3)
              | (go_at_call 24; with_reducible refine cA.mono ?_; rintro e w4 ⟨rfl, s4, g4⟩; have l4 := (HA2.out.1.below s4.bel).lg; obtain ⟨q0, q1, q2⟩ := And.intro l4.c0 (And.intro l4.c1 l4.c2); have cC := s4.commit mk F R lo m lc D hg HA2.out.1.ch; rw [he, hs] at cC; clear l4)
              | (go_at_call 25; with_reducible refine cC.mono ?_; rintro e w5 ⟨rfl, F5, s5, g5⟩; have b5 := next HA2.out.2 s5.bel; have i5 := (HA2.out.1.below s5.bel).im; have HS5 := hid s5; clear q0 q1 q2 cf s3 s4 g4 g5 s5 cA cC cN))
            refine wp_region_held_drew (S := fun w' => Sl .u8 w' a0 n cap z) (by kernel_rfl) (i5.below (below_drew (Below.refl _ _))) (fun hH => ?_)
            refine wpAnyH_take (i := 0) (v := ?_) (List.getElem?_toArray.trans rfl) (by kernel_rfl) (by kernel_rfl) (by kernel_rfl) (fun _ _ _ h => h) (Or.inl ⟨by rfl, ?_⟩) (by assumption) ?_
            rotate_left
            · (intro w hSw; skip; go_simp; try (with_reducible rfl))
            simp only [Act.put, List.setIfInBounds_toArray, List.set_cons_zero, List.set_cons_succ]
            refine wpAnyH_take (i := 3) (v := ?_) (List.getElem?_toArray.trans rfl) (by kernel_rfl) (by kernel_rfl) (by kernel_rfl) (fun _ _ _ h => h) (Or.inl ⟨by rfl, ?_⟩) (by assumption) ?_
            rotate_left
            · (intro w hSw; skip; go_simp; try (with_reducible rfl))
            simp only [Act.put, List.setIfInBounds_toArray, List.set_cons_zero, List.set_cons_succ]
            refine wpAnyH_take (i := 4) (v := ?_) (List.getElem?_toArray.trans rfl) (by kernel_rfl) (by kernel_rfl) (by kernel_rfl) (fun _ _ _ h => h) (Or.inl ⟨by rfl, ?_⟩) (by assumption) ?_
            rotate_left
            · (intro w hSw; skip; have t4 := hSw.text (P := Try.prog) Try.underlying27 Try.underlying5 Try.underlying9; go_simp; try (with_reducible rfl))
            simp only [Act.put, List.setIfInBounds_toArray, List.set_cons_zero, List.set_cons_succ]
            refine wpAnyH_ready (rs := [1]) (by kernel_rfl) (by simp) ?_
            refine AllReadyH.cons (List.getElem?_toArray.trans rfl) (fun K3 hK3 => ?_) AllReadyH.nil
            go_simp
            refine (HS5.out.drew.image HCL.out HZ.out.1).mono ?_
            rintro e w6 ⟨gi, ci, rfl, oI, b6⟩
            have i6 := hH.below b6
            dsimp only
            refine hK3.out _ _ i6 (fun hHeld3 => ?_)
            clear hK3 K3
            refine wpAnyH_ready (rs := [2]) (by kernel_rfl) (by simp) ?_
            refine AllReadyH.cons (List.getElem?_toArray.trans rfl) (fun K3 hK3 => ?_) AllReadyH.nil
            have t2 := oI.sl.text (P := Try.prog) Try.underlying27 Try.underlying5 Try.underlying9
            go_simp
            refine hK3.out _ _ i6 (fun hHeld3 => ?_)
            clear hK3 K3
            refine wpAnyH_take (i := 5) (v := ?_) (List.getElem?_toArray.trans rfl) (by kernel_rfl) (by kernel_rfl) (by kernel_rfl) (fun _ _ _ h => h) (Or.inl ⟨by rfl, ?_⟩) (by assumption) ?_
            rotate_left
            · (intro w hSw; skip; go_simp; try (with_reducible rfl))
            simp only [Act.put, List.setIfInBounds_toArray, List.set_cons_zero, List.set_cons_succ]
            refine wpAnyH_take (i := 6) (v := ?_) (List.getElem?_toArray.trans rfl) (by kernel_rfl) (by kernel_rfl) (by kernel_rfl) (fun _ _ _ h => h) (Or.inl ⟨by rfl, ?_⟩) (by assumption) ?_
            rotate_left
            · (intro w hSw; skip; go_simp; try (with_reducible rfl))
            simp only [Act.put, List.setIfInBounds_toArray, List.set_cons_zero, List.set_cons_succ]
            refine wpAnyH_take (i := 7) (v := ?_) (List.getElem?_toArray.trans rfl) (by kernel_rfl) (by kernel_rfl) (by kernel_rfl) (fun _ _ _ h => h) (Or.inl ⟨by rfl, ?_⟩) (by assumption) ?_
            rotate_left
            · (intro w hSw; skip; go_simp; try (with_reducible rfl))
            simp only [Act.put, List.setIfInBounds_toArray, List.set_cons_zero, List.set_cons_succ]
            refine wpAnyH_ready (rs := [8]) (by kernel_rfl) (by simp) ?_
            refine AllReadyH.cons (List.getElem?_toArray.trans rfl) (fun K3 hK3 => ?_) AllReadyH.nil
            go_simp
            refine ((HS5.out.drew.below b6).dirty HCL.out).mono ?_
            rintro e w7 ⟨di, dc, rfl, b7⟩
            have i7 := i6.below b7
            dsimp only
            refine hK3.out _ _ i7 (fun hHeld3 => ?_)
            clear hK3 K3
            refine wpAnyH_take (i := 9) (v := ?_) (List.getElem?_toArray.trans rfl) (by kernel_rfl) (by kernel_rfl) (by kernel_rfl) (fun _ _ _ h => h) (Or.inl ⟨by rfl, ?_⟩) (by assumption) ?_
            rotate_left
            · (intro w hSw; skip; go_simp; try (with_reducible rfl))
            simp only [Act.put, List.setIfInBounds_toArray, List.set_cons_zero, List.set_cons_succ]
            refine wpAnyH_take (i := 10) (v := ?_) (List.getElem?_toArray.trans rfl) (by kernel_rfl) (by kernel_rfl) (by kernel_rfl) (fun _ _ _ h => h) (Or.inl ⟨by rfl, ?_⟩) (by assumption) ?_
            rotate_left
            · (intro w hSw; skip; go_simp; try (with_reducible rfl))
            simp only [Act.put, List.setIfInBounds_toArray, List.set_cons_zero, List.set_cons_succ]
            refine wpAnyH_take (i := 11) (v := ?_) (List.getElem?_toArray.trans rfl) (by kernel_rfl) (by kernel_rfl) (by kernel_rfl) (fun _ _ _ h => h) (Or.inl ⟨by rfl, ?_⟩) (by assumption) ?_
            rotate_left
            · (intro w hSw; skip; go_simp; try (with_reducible rfl))
            simp only [Act.put, List.setIfInBounds_toArray, List.set_cons_zero, List.set_cons_succ]
            refine wpAnyH_take (i := 12) (v := ?_) (List.getElem?_toArray.trans rfl) (by kernel_rfl) (by kernel_rfl) (by kernel_rfl) (fun _ _ _ h => h) (Or.inl ⟨by rfl, ?_⟩) (by assumption) ?_
            rotate_left
            · (intro w hSw; skip; go_simp; try (with_reducible rfl))
            simp only [Act.put, List.setIfInBounds_toArray, List.set_cons_zero, List.set_cons_succ]
            refine wpAnyH_done (by kernel_rfl) ?_ _
            go_wp2
            go_ret
            exact ⟨by simp, next (next (b5.trans (below_drew (Below.refl _ _))) b6) b7⟩
          · have hs' := hs
            go_wp2_with (first
              | (go_at_call 23; with_reducible refine cN.mono ?_; rintro e w3 ⟨p, F3, rfl, d3, n3, b3⟩; have s3 : Sat w2 w3 F3 p (St.new z) := ⟨d3, n3, b3⟩; have cA := s3.arm A.n rgA; have cf := HSE.out w3 b3; clear d3 n3)
              | (go_at_call 24; with_reducible refine cA.mono ?_; rintro e w4 ⟨rfl, s4, g4⟩; have l4 := (HA2.out.1.below s4.bel).lg; obtain ⟨q0, q1, q2⟩ := And.intro l4.c0 (And.intro l4.c1 l4.c2); have cC := s4.commit mk F R lo m lc D hg HA2.out.1.ch; rw [he, hs] at cC; clear l4)
              | (go_at_call 25; with_reducible refine cC.mono ?_; rintro e w5 ⟨rfl, F5, s5, g5⟩; have b5 := next HA2.out.2 s5.bel; have i5 := (HA2.out.1.below s5.bel).im; have HS5 := hid s5; clear q0 q1 q2 cf s3 s4 g4 g5 s5 cA cC cN))
            refine wp_region_held_drew (S := fun w' => Sl .u8 w' a0 n cap z) (by kernel_rfl) (i5.below (below_drew (Below.refl _ _))) (fun hH => ?_)
            refine wpAnyH_take (i := 0) (v := ?_) (List.getElem?_toArray.trans rfl) (by kernel_rfl) (by kernel_rfl) (by kernel_rfl) (fun _ _ _ h => h) (Or.inl ⟨by rfl, ?_⟩) (by assumption) ?_
            rotate_left
            · (intro w hSw; skip; go_simp; try (with_reducible rfl))
            simp only [Act.put, List.setIfInBounds_toArray, List.set_cons_zero, List.set_cons_succ]
            refine wpAnyH_take (i := 3) (v := ?_) (List.getElem?_toArray.trans rfl) (by kernel_rfl) (by kernel_rfl) (by kernel_rfl) (fun _ _ _ h => h) (Or.inl ⟨by rfl, ?_⟩) (by assumption) ?_
            rotate_left
            · (intro w hSw; skip; go_simp; try (with_reducible rfl))
            simp only [Act.put, List.setIfInBounds_toArray, List.set_cons_zero, List.set_cons_succ]
            refine wpAnyH_take (i := 4) (v := ?_) (List.getElem?_toArray.trans rfl) (by kernel_rfl) (by kernel_rfl) (by kernel_rfl) (fun _ _ _ h => h) (Or.inl ⟨by rfl, ?_⟩) (by assumption) ?_
            rotate_left
            · (intro w hSw; skip; have t4 := hSw.text (P := Try.prog) Try.underlying27 Try.underlying5 Try.underlying9; go_simp; try (with_reducible rfl))
            simp only [Act.put, List.setIfInBounds_toArray, List.set_cons_zero, List.set_cons_succ]
            refine wpAnyH_ready (rs := [1]) (by kernel_rfl) (by simp) ?_
            refine AllReadyH.cons (List.getElem?_toArray.trans rfl) (fun K3 hK3 => ?_) AllReadyH.nil
            go_simp
            refine (HS5.out.drew.image HCL.out HZ.out.1).mono ?_
            rintro e w6 ⟨gi, ci, rfl, oI, b6⟩
            have i6 := hH.below b6
            dsimp only
            refine hK3.out _ _ i6 (fun hHeld3 => ?_)
            clear hK3 K3
            refine wpAnyH_ready (rs := [2]) (by kernel_rfl) (by simp) ?_
            refine AllReadyH.cons (List.getElem?_toArray.trans rfl) (fun K3 hK3 => ?_) AllReadyH.nil
            have t2 := oI.sl.text (P := Try.prog) Try.underlying27 Try.underlying5 Try.underlying9
            go_simp
            refine hK3.out _ _ i6 (fun hHeld3 => ?_)
            clear hK3 K3
            refine wpAnyH_take (i := 5) (v := ?_) (List.getElem?_toArray.trans rfl) (by kernel_rfl) (by kernel_rfl) (by kernel_rfl) (fun _ _ _ h => h) (Or.inl ⟨by rfl, ?_⟩) (by assumption) ?_
            rotate_left
            · (intro w hSw; skip; go_simp; try (with_reducible rfl))
            simp only [Act.put, List.setIfInBounds_toArray, List.set_cons_zero, List.set_cons_succ]
            refine wpAnyH_take (i := 6) (v := ?_) (List.getElem?_toArray.trans rfl) (by kernel_rfl) (by kernel_rfl) (by kernel_rfl) (fun _ _ _ h => h) (Or.inl ⟨by rfl, ?_⟩) (by assumption) ?_
            rotate_left
            · (intro w hSw; skip; go_simp; try (with_reducible rfl))
            simp only [Act.put, List.setIfInBounds_toArray, List.set_cons_zero, List.set_cons_succ]
            refine wpAnyH_take (i := 7) (v := ?_) (List.getElem?_toArray.trans rfl) (by kernel_rfl) (by kernel_rfl) (by kernel_rfl) (fun _ _ _ h => h) (Or.inl ⟨by rfl, ?_⟩) (by assumption) ?_
            rotate_left
            · (intro w hSw; skip; go_simp; try (with_reducible rfl))
            simp only [Act.put, List.setIfInBounds_toArray, List.set_cons_zero, List.set_cons_succ]
            refine wpAnyH_ready (rs := [8]) (by kernel_rfl) (by simp) ?_
            refine AllReadyH.cons (List.getElem?_toArray.trans rfl) (fun K3 hK3 => ?_) AllReadyH.nil
            go_simp
            refine ((HS5.out.drew.below b6).dirty HCL.out).mono ?_
            rintro e w7 ⟨di, dc, rfl, b7⟩
            have i7 := i6.below b7
            dsimp only
            refine hK3.out _ _ i7 (fun hHeld3 => ?_)
            clear hK3 K3
            refine wpAnyH_take (i := 9) (v := ?_) (List.getElem?_toArray.trans rfl) (by kernel_rfl) (by kernel_rfl) (by kernel_rfl) (fun _ _ _ h => h) (Or.inl ⟨by rfl, ?_⟩) (by assumption) ?_
            rotate_left
            · (intro w hSw; skip; go_simp; try (with_reducible rfl))
            simp only [Act.put, List.setIfInBounds_toArray, List.set_cons_zero, List.set_cons_succ]
            refine wpAnyH_take (i := 10) (v := ?_) (List.getElem?_toArray.trans rfl) (by kernel_rfl) (by kernel_rfl) (by kernel_rfl) (fun _ _ _ h => h) (Or.inl ⟨by rfl, ?_⟩) (by assumption) ?_
            rotate_left
            · (intro w hSw; skip; go_simp; try (with_reducible rfl))
            simp only [Act.put, List.setIfInBounds_toArray, List.set_cons_zero, List.set_cons_succ]
            refine wpAnyH_take (i := 11) (v := ?_) (List.getElem?_toArray.trans rfl) (by kernel_rfl) (by kernel_rfl) (by kernel_rfl) (fun _ _ _ h => h) (Or.inl ⟨by rfl, ?_⟩) (by assumption) ?_
            rotate_left
            · (intro w hSw; skip; go_simp; try (with_reducible rfl))
            simp only [Act.put, List.setIfInBounds_toArray, List.set_cons_zero, List.set_cons_succ]
            refine wpAnyH_take (i := 12) (v := ?_) (List.getElem?_toArray.trans rfl) (by kernel_rfl) (by kernel_rfl) (by kernel_rfl) (fun _ _ _ h => h) (Or.inl ⟨by rfl, ?_⟩) (by assumption) ?_
            rotate_left
            · (intro w hSw; skip; go_simp; try (with_reducible rfl))
            simp only [Act.put, List.setIfInBounds_toArray, List.set_cons_zero, List.set_cons_succ]
            refine wpAnyH_done (by kernel_rfl) ?_ _
            go_wp2
            go_ret
            exact ⟨by simp, next (next (b5.trans (below_drew (Below.refl _ _))) b6) b7⟩
        · obtain ⟨Ev, hEv⟩ : ∃ Ev, commitE { St.new z with armed := max A.n 0 } ⟨mk, F, R⟩ (saysN D m) = Ev := ⟨_, rfl⟩
          obtain ⟨S2, hS2⟩ : ∃ S2, commitS { St.new z with armed := max A.n 0 } ⟨mk, F, R⟩ (saysN D m) = S2 := ⟨_, rfl⟩
          rw [hEv] at he h0 hcr
          rw [hS2] at h0 hcr
          have hE1 : (Ev == 1) = false := by rcases he with rfl | rfl <;> rfl
          have hE6 : (Ev == 6) = false := by rcases he with rfl | rfl <;> rfl
          have HOK : Hid (okA (n / 64) (saysN D m) = true) := by
            rw [show n / 64 = N by have := HZ.out.2.2.1; omega]
            exact okA_right C.lr
          have H2 : Hid (n % 64 = 0) := HZ.out.2.2.2.2.2
          have HC := hid (And.intro C (And.intro he (And.intro h0 hcr)))
          obtain ⟨Y, hY⟩ : ∃ Y, othersN ⟨mk, F, R⟩ (layN z (saysN D m)) N = Y := ⟨_, rfl⟩
          have HY := hid hY
          have HSK : Hid (∀ w' : World, Below w2.heap.size w2 w' → w'.cell? ⟨w.heap.size + 1, 1, none⟩ = some (.slice A.ka A.kl A.kc)) := fun w' hb => (HA2.out.1.below hb).f1
          clear C he h0 hcr hY
          go_upto_region 21 with (first
            | (go_at_call 23; with_reducible refine cN.mono ?_; rintro e w3 ⟨p, F3, rfl, d3, n3, b3⟩; have s3 : Sat w2 w3 F3 p (St.new z) := ⟨d3, n3, b3⟩; have cA := s3.arm A.n rgA; have cf := HSE.out w3 b3; clear d3 n3)
            | (go_at_call 24; with_reducible refine cA.mono ?_; rintro e w4 ⟨rfl, s4, g4⟩; have l4 := (HA2.out.1.below s4.bel).lg; obtain ⟨q0, q1, q2⟩ := And.intro l4.c0 (And.intro l4.c1 l4.c2); have cC := s4.commit mk F R lo m lc D hg HA2.out.1.ch; rw [hEv, hS2] at cC; clear l4)
            | (go_at_call 25; with_reducible refine cC.mono ?_; rintro e w5 ⟨rfl, F5, s5, g5⟩; have x5 := HA2.out.1.below s5.bel; have cP := apply_any a0 n cap z lo m lc D w5 x5.im x5.ch H2.out hn9; have HS5 := hid s5; clear q0 q1 q2 cf s3 s4 g4 g5 s5 cA cC cN x5)
            | (go_at_call 28; with_reducible refine cP.mono ?_; rintro e w6 ⟨b6, _, hok⟩; obtain ⟨ga, rfl, oA⟩ := hok HOK.out; have HS6 := hid (And.intro (HS5.out.below b6) (has_of HS5.out oA)); clear b6 oA hok cP))
          go_cut [134] (fun c wx => c = .bool false ∧ Sat w2 wx F5 p S2 ∧ Has wx F5 ga n n (layN z (saysN D m)))
          case first =>
            obtain ⟨s6, a6⟩ := HS6.out
            have l6 := (HA2.out.1.below s6.drew.bel).lg
            rcases HC.out.2.1 with rfl | rfl
            · obtain ⟨x, hres, hclx⟩ := HC.out.2.2.1 rfl
              have hxl : x.length = n := by rw [hres.len]; exact HZ.out.2.2.1.symm
              have HX := hid (And.intro hres.others (And.intro hclx hxl))
              have HS6' := hid (And.intro s6.drew (a6.below (w' := w6.drew) (below_drew (Below.refl _ _))))
              clear s6 a6 hres hclx hxl
              refine wp_region_held_drew (S := fun w' => w'.cell? ⟨w.heap.size, 0, none⟩ = some (.int .i64 (mk : Int)) ∧ w'.cell? ⟨w.heap.size, 1, none⟩ = some (.int .i64 F) ∧ w'.cell? ⟨w.heap.size, 2, none⟩ = some (.int .i64 R)) (by kernel_rfl) ⟨l6.c0, l6.c1, l6.c2⟩ (fun hH => ?_)
              refine wpAnyH_take (i := 0) (v := ?_) (List.getElem?_toArray.trans rfl) (by kernel_rfl) (by kernel_rfl) (by kernel_rfl) (fun _ _ _ h => h) (Or.inl ⟨by rfl, ?_⟩) (by assumption) ?_
              rotate_left
              · (intro w hSw; obtain ⟨h1, h2, h3⟩ := hSw; go_simp; try (with_reducible rfl))
              simp only [Act.put, List.setIfInBounds_toArray, List.set_cons_zero, List.set_cons_succ]
              refine wpAnyH_take (i := 1) (v := ?_) (List.getElem?_toArray.trans rfl) (by kernel_rfl) (by kernel_rfl) (by kernel_rfl) (fun _ _ _ h => h) (Or.inl ⟨by rfl, ?_⟩) (by assumption) ?_
              rotate_left
              · (intro w hSw; obtain ⟨h1, h2, h3⟩ := hSw; go_simp; try (with_reducible rfl))
              simp only [Act.put, List.setIfInBounds_toArray, List.set_cons_zero, List.set_cons_succ]
              refine wpAnyH_take (i := 2) (v := ?_) (List.getElem?_toArray.trans rfl) (by kernel_rfl) (by kernel_rfl) (by kernel_rfl) (fun _ _ _ h => h) (Or.inl ⟨by rfl, ?_⟩) (by assumption) ?_
              rotate_left
              · (intro w hSw; obtain ⟨h1, h2, h3⟩ := hSw; go_simp; try (with_reducible rfl))
              simp only [Act.put, List.setIfInBounds_toArray, List.set_cons_zero, List.set_cons_succ]
              refine wpAnyH_take (i := 3) (v := ?_) (List.getElem?_toArray.trans rfl) (by kernel_rfl) (by kernel_rfl) (by kernel_rfl) (fun _ _ _ h => h) (Or.inl ⟨by rfl, ?_⟩) (by assumption) ?_
              rotate_left
              · (intro w hSw; obtain ⟨h1, h2, h3⟩ := hSw; go_simp; try (with_reducible rfl))
              simp only [Act.put, List.setIfInBounds_toArray, List.set_cons_zero, List.set_cons_succ]
              refine wpAnyH_take (i := 4) (v := ?_) (List.getElem?_toArray.trans rfl) (by kernel_rfl) (by kernel_rfl) (by kernel_rfl) (fun _ _ _ h => h) (Or.inl ⟨by rfl, ?_⟩) (by assumption) ?_
              rotate_left
              · (intro w hSw; obtain ⟨h1, h2, h3⟩ := hSw; go_simp; try (with_reducible rfl))
              simp only [Act.put, List.setIfInBounds_toArray, List.set_cons_zero, List.set_cons_succ]
              refine wpAnyH_take (i := 7) (v := ?_) (List.getElem?_toArray.trans rfl) (by kernel_rfl) (by kernel_rfl) (by kernel_rfl) (fun _ _ _ h => h) (Or.inl ⟨by rfl, ?_⟩) (by assumption) ?_
              rotate_left
              · (intro w hSw; obtain ⟨h1, h2, h3⟩ := hSw; go_simp; try (with_reducible rfl))
              simp only [Act.put, List.setIfInBounds_toArray, List.set_cons_zero, List.set_cons_succ]
              refine wpAnyH_take (i := 8) (v := ?_) (List.getElem?_toArray.trans rfl) (by kernel_rfl) (by kernel_rfl) (by kernel_rfl) (fun _ _ _ h => h) (Or.inl ⟨by rfl, ?_⟩) (by assumption) ?_
              rotate_left
              · (intro w hSw; obtain ⟨h1, h2, h3⟩ := hSw; go_simp; try (with_reducible rfl))
              simp only [Act.put, List.setIfInBounds_toArray, List.set_cons_zero, List.set_cons_succ]
              refine wpAnyH_ready (rs := [5]) (by kernel_rfl) (by simp) ?_
              refine AllReadyH.cons (List.getElem?_toArray.trans rfl) (fun K3 hK3 => ?_) AllReadyH.nil
              go_simp
              refine (HS6'.out.1.image HX.out.2.1 HX.out.2.2).mono ?_
              rintro e x1 ⟨gi, ci, rfl, oI, b1⟩
              have l7 := l6.below b1
              dsimp only
              refine hK3.out _ _ ⟨l7.c0, l7.c1, l7.c2⟩ (fun hHeld3 => ?_)
              clear hK3 K3
              refine wpAnyH_ready (rs := [6]) (by kernel_rfl) (by simp) ?_
              refine AllReadyH.cons (List.getElem?_toArray.trans rfl) (fun K3 hK3 => ?_) AllReadyH.nil
              go_simp
              refine (others_of mk F R (some ⟨gi, 0, none⟩) n N ci x x1 hg oI.sl hn8 HZ.out.2.2.1 Y (HX.out.1.trans HY.out)).mono ?_
              rintro e x2 ⟨rfl, b2⟩
              have l8 := l7.below b2
              dsimp only
              refine hK3.out _ _ ⟨l8.c0, l8.c1, l8.c2⟩ (fun hHeld3 => ?_)
              clear hK3 K3
              refine wpAnyH_ready (rs := [9]) (by kernel_rfl) (by simp) ?_
              refine AllReadyH.cons (List.getElem?_toArray.trans rfl) (fun K3 hK3 => ?_) AllReadyH.nil
              go_simp
              refine (others_of mk F R (some ⟨ga, 0, none⟩) n N n _ x2 hg ((HS6'.out.2.below b1).below b2).sl hn8 HZ.out.2.2.1 Y HY.out).mono ?_
              rintro e x3 ⟨rfl, b3⟩
              have l9 := l8.below b3
              dsimp only
              refine hK3.out _ _ ⟨l9.c0, l9.c1, l9.c2⟩ (fun hHeld3 => ?_)
              clear hK3 K3
              refine wpAnyH_take (i := 10) (v := ?_) (List.getElem?_toArray.trans rfl) (by kernel_rfl) (by kernel_rfl) (by kernel_rfl) (fun _ _ _ h => h) (Or.inl ⟨by rfl, ?_⟩) (by assumption) ?_
              rotate_left
              · (intro w hSw; obtain ⟨h1, h2, h3⟩ := hSw; go_simp; try (with_reducible rfl))
              simp only [Act.put, List.setIfInBounds_toArray, List.set_cons_zero, List.set_cons_succ]
              refine wpAnyH_take (i := 11) (v := ?_) (List.getElem?_toArray.trans rfl) (by kernel_rfl) (by kernel_rfl) (by kernel_rfl) (fun _ _ _ h => h) (Or.inl ⟨by rfl, ?_⟩) (by assumption) ?_
              rotate_left
              · (intro w hSw; obtain ⟨h1, h2, h3⟩ := hSw; go_simp; try (with_reducible rfl))
              simp only [Act.put, List.setIfInBounds_toArray, List.set_cons_zero, List.set_cons_succ]
              refine wpAnyH_take (i := 12) (v := ?_) (List.getElem?_toArray.trans rfl) (by kernel_rfl) (by kernel_rfl) (by kernel_rfl) (fun _ _ _ h => h) (Or.inl ⟨by rfl, ?_⟩) (by assumption) ?_
              rotate_left
              · (intro w hSw; obtain ⟨h1, h2, h3⟩ := hSw; go_simp; try (with_reducible rfl))
              simp only [Act.put, List.setIfInBounds_toArray, List.set_cons_zero, List.set_cons_succ]
              refine wpAnyH_ready (rs := [13]) (by kernel_rfl) (by simp) ?_
              refine AllReadyH.cons (List.getElem?_toArray.trans rfl) (fun K3 hK3 => ?_) AllReadyH.nil
              go_simp
              refine ((((HS6'.out.1.below b1).below b2).below b3).dirty HX.out.2.1).mono ?_
              rintro e x4 ⟨di, dc, rfl, b4⟩
              have lA := l9.below b4
              dsimp only
              refine hK3.out _ _ ⟨lA.c0, lA.c1, lA.c2⟩ (fun hHeld3 => ?_)
              clear hK3 K3
              refine wpAnyH_take (i := 14) (v := ?_) (List.getElem?_toArray.trans rfl) (by kernel_rfl) (by kernel_rfl) (by kernel_rfl) (fun _ _ _ h => h) (Or.inl ⟨by rfl, ?_⟩) (by assumption) ?_
              rotate_left
              · (intro w hSw; obtain ⟨h1, h2, h3⟩ := hSw; go_simp; try (with_reducible rfl))
              simp only [Act.put, List.setIfInBounds_toArray, List.set_cons_zero, List.set_cons_succ]
              refine wpAnyH_take (i := 15) (v := ?_) (List.getElem?_toArray.trans rfl) (by kernel_rfl) (by kernel_rfl) (by kernel_rfl) (fun _ _ _ h => h) (Or.inl ⟨by rfl, ?_⟩) (by assumption) ?_
              rotate_left
              · (intro w hSw; obtain ⟨h1, h2, h3⟩ := hSw; go_simp; try (with_reducible rfl))
              simp only [Act.put, List.setIfInBounds_toArray, List.set_cons_zero, List.set_cons_succ]
              refine wpAnyH_take (i := 16) (v := ?_) (List.getElem?_toArray.trans rfl) (by kernel_rfl) (by kernel_rfl) (by kernel_rfl) (fun _ _ _ h => h) (Or.inl ⟨by rfl, ?_⟩) (by assumption) ?_
              rotate_left
              · (intro w hSw; obtain ⟨h1, h2, h3⟩ := hSw; go_simp; try (with_reducible rfl))
              simp only [Act.put, List.setIfInBounds_toArray, List.set_cons_zero, List.set_cons_succ]
              refine wpAnyH_take (i := 17) (v := ?_) (List.getElem?_toArray.trans rfl) (by kernel_rfl) (by kernel_rfl) (by kernel_rfl) (fun _ _ _ h => h) (Or.inl ⟨by rfl, ?_⟩) (by assumption) ?_
              rotate_left
              · (intro w hSw; obtain ⟨h1, h2, h3⟩ := hSw; go_simp; try (with_reducible rfl))
              simp only [Act.put, List.setIfInBounds_toArray, List.set_cons_zero, List.set_cons_succ]
              refine wpAnyH_done (by kernel_rfl) ?_ _
              go_wp2_with fail
              go_meet
              exact ⟨by simp, (((HS6'.out.1.below b1).below b2).below b3).below b4, (((HS6'.out.2.below b1).below b2).below b3).below b4⟩
            · have HS6' := hid (And.intro s6.drew (a6.below (w' := w6.drew) (below_drew (Below.refl _ _))))
              clear s6 a6
              refine wp_region_held_drew (S := fun w' => w'.cell? ⟨w.heap.size, 0, none⟩ = some (.int .i64 (mk : Int)) ∧ w'.cell? ⟨w.heap.size, 1, none⟩ = some (.int .i64 F) ∧ w'.cell? ⟨w.heap.size, 2, none⟩ = some (.int .i64 R)) (by kernel_rfl) ⟨l6.c0, l6.c1, l6.c2⟩ (fun hH => ?_)
              refine wpAnyH_take (i := 0) (v := ?_) (List.getElem?_toArray.trans rfl) (by kernel_rfl) (by kernel_rfl) (by kernel_rfl) (fun _ _ _ h => h) (Or.inl ⟨by rfl, ?_⟩) (by assumption) ?_
              rotate_left
              · (intro w hSw; obtain ⟨h1, h2, h3⟩ := hSw; go_simp; try (with_reducible rfl))
              simp only [Act.put, List.setIfInBounds_toArray, List.set_cons_zero, List.set_cons_succ]
              refine wpAnyH_take (i := 1) (v := ?_) (List.getElem?_toArray.trans rfl) (by kernel_rfl) (by kernel_rfl) (by kernel_rfl) (fun _ _ _ h => h) (Or.inl ⟨by rfl, ?_⟩) (by assumption) ?_
              rotate_left
              · (intro w hSw; obtain ⟨h1, h2, h3⟩ := hSw; go_simp; try (with_reducible rfl))
              simp only [Act.put, List.setIfInBounds_toArray, List.set_cons_zero, List.set_cons_succ]
              refine wpAnyH_take (i := 2) (v := ?_) (List.getElem?_toArray.trans rfl) (by kernel_rfl) (by kernel_rfl) (by kernel_rfl) (fun _ _ _ h => h) (Or.inl ⟨by rfl, ?_⟩) (by assumption) ?_
              rotate_left
              · (intro w hSw; obtain ⟨h1, h2, h3⟩ := hSw; go_simp; try (with_reducible rfl))
              simp only [Act.put, List.setIfInBounds_toArray, List.set_cons_zero, List.set_cons_succ]
              refine wpAnyH_take (i := 3) (v := undef) (List.getElem?_toArray.trans rfl) (by kernel_rfl) (by kernel_rfl) (by kernel_rfl) (fun _ _ _ h => h) (Or.inr ⟨by rfl, rfl⟩) (by assumption) ?_
              simp only [Act.put, List.setIfInBounds_toArray, List.set_cons_zero, List.set_cons_succ]
              refine wpAnyH_take (i := 4) (v := undef) (List.getElem?_toArray.trans rfl) (by kernel_rfl) (by kernel_rfl) (by kernel_rfl) (fun _ _ _ h => h) (Or.inr ⟨by rfl, rfl⟩) (by assumption) ?_
              simp only [Act.put, List.setIfInBounds_toArray, List.set_cons_zero, List.set_cons_succ]
              refine wpAnyH_take (i := 5) (v := undef) (List.getElem?_toArray.trans rfl) (by kernel_rfl) (by kernel_rfl) (by kernel_rfl) (fun _ _ _ h => h) (Or.inr ⟨by rfl, rfl⟩) (by assumption) ?_
              simp only [Act.put, List.setIfInBounds_toArray, List.set_cons_zero, List.set_cons_succ]
              refine wpAnyH_take (i := 6) (v := undef) (List.getElem?_toArray.trans rfl) (by kernel_rfl) (by kernel_rfl) (by kernel_rfl) (fun _ _ _ h => h) (Or.inr ⟨by rfl, rfl⟩) (by assumption) ?_
              simp only [Act.put, List.setIfInBounds_toArray, List.set_cons_zero, List.set_cons_succ]
              refine wpAnyH_take (i := 7) (v := undef) (List.getElem?_toArray.trans rfl) (by kernel_rfl) (by kernel_rfl) (by kernel_rfl) (fun _ _ _ h => h) (Or.inr ⟨by rfl, rfl⟩) (by assumption) ?_
              simp only [Act.put, List.setIfInBounds_toArray, List.set_cons_zero, List.set_cons_succ]
              refine wpAnyH_take (i := 8) (v := undef) (List.getElem?_toArray.trans rfl) (by kernel_rfl) (by kernel_rfl) (by kernel_rfl) (fun _ _ _ h => h) (Or.inr ⟨by rfl, rfl⟩) (by assumption) ?_
              simp only [Act.put, List.setIfInBounds_toArray, List.set_cons_zero, List.set_cons_succ]
              refine wpAnyH_take (i := 9) (v := undef) (List.getElem?_toArray.trans rfl) (by kernel_rfl) (by kernel_rfl) (by kernel_rfl) (fun _ _ _ h => h) (Or.inr ⟨by rfl, rfl⟩) (by assumption) ?_
              simp only [Act.put, List.setIfInBounds_toArray, List.set_cons_zero, List.set_cons_succ]
              refine wpAnyH_take (i := 10) (v := undef) (List.getElem?_toArray.trans rfl) (by kernel_rfl) (by kernel_rfl) (by kernel_rfl) (fun _ _ _ h => h) (Or.inr ⟨by rfl, rfl⟩) (by assumption) ?_
              simp only [Act.put, List.setIfInBounds_toArray, List.set_cons_zero, List.set_cons_succ]
              refine wpAnyH_take (i := 11) (v := undef) (List.getElem?_toArray.trans rfl) (by kernel_rfl) (by kernel_rfl) (by kernel_rfl) (fun _ _ _ h => h) (Or.inr ⟨by rfl, rfl⟩) (by assumption) ?_
              simp only [Act.put, List.setIfInBounds_toArray, List.set_cons_zero, List.set_cons_succ]
              refine wpAnyH_take (i := 12) (v := undef) (List.getElem?_toArray.trans rfl) (by kernel_rfl) (by kernel_rfl) (by kernel_rfl) (fun _ _ _ h => h) (Or.inr ⟨by rfl, rfl⟩) (by assumption) ?_
              simp only [Act.put, List.setIfInBounds_toArray, List.set_cons_zero, List.set_cons_succ]
              refine wpAnyH_take (i := 13) (v := undef) (List.getElem?_toArray.trans rfl) (by kernel_rfl) (by kernel_rfl) (by kernel_rfl) (fun _ _ _ h => h) (Or.inr ⟨by rfl, rfl⟩) (by assumption) ?_
              simp only [Act.put, List.setIfInBounds_toArray, List.set_cons_zero, List.set_cons_succ]
              refine wpAnyH_take (i := 14) (v := undef) (List.getElem?_toArray.trans rfl) (by kernel_rfl) (by kernel_rfl) (by kernel_rfl) (fun _ _ _ h => h) (Or.inr ⟨by rfl, rfl⟩) (by assumption) ?_
              simp only [Act.put, List.setIfInBounds_toArray, List.set_cons_zero, List.set_cons_succ]
              refine wpAnyH_take (i := 15) (v := undef) (List.getElem?_toArray.trans rfl) (by kernel_rfl) (by kernel_rfl) (by kernel_rfl) (fun _ _ _ h => h) (Or.inr ⟨by rfl, rfl⟩) (by assumption) ?_
              simp only [Act.put, List.setIfInBounds_toArray, List.set_cons_zero, List.set_cons_succ]
              refine wpAnyH_take (i := 16) (v := undef) (List.getElem?_toArray.trans rfl) (by kernel_rfl) (by kernel_rfl) (by kernel_rfl) (fun _ _ _ h => h) (Or.inr ⟨by rfl, rfl⟩) (by assumption) ?_
              simp only [Act.put, List.setIfInBounds_toArray, List.set_cons_zero, List.set_cons_succ]
              refine wpAnyH_take (i := 17) (v := ?_) (List.getElem?_toArray.trans rfl) (by kernel_rfl) (by kernel_rfl) (by kernel_rfl) (fun _ _ _ h => h) (Or.inl ⟨by rfl, ?_⟩) (by assumption) ?_
              rotate_left
              · (intro w hSw; obtain ⟨h1, h2, h3⟩ := hSw; go_simp; try (with_reducible rfl))
              simp only [Act.put, List.setIfInBounds_toArray, List.set_cons_zero, List.set_cons_succ]
              refine wpAnyH_done (by kernel_rfl) ?_ _
              go_wp2_with fail
              go_meet
              exact ⟨by simp, HS6'.out.1, HS6'.out.2⟩
          case rest =>
            obtain ⟨rfl, s7, a7⟩ := hcut
            obtain ⟨x0, hx0, hm0⟩ := HC.out.2.2.2 s7.dev.ok A.kz
            have cX := s7.crash A HA2.out.1.fk
            rw [hx0] at cX
            have cf := HSK.out wc s7.bel
            have HM0 := hid hm0
            have HA7 := hid a7
            clear hx0 hm0 s7 a7
            go_wp2_with (first
              | (go_at_call 30; with_reducible refine cX.mono ?_; rintro e w8 ⟨rfl, s8, g8⟩; have a8 := HA7.out.goes g8; have HS8 := hid (And.intro s8 a8); clear s8 a8 g8))
            clear cX cf
            go_loopw [20] (fun t wx => ∃ (k : Nat) (F' : Nat → Prop) (x : List Int), k ≤ 6 ∧ t = .int .i64 k ∧ Hid (Sat w2 wx F' p (St.new x) ∧ Has wx F' ga n n (layN z (saysN D m)) ∧ May N ⟨mk, F, R⟩ z (saysN D m) Ev x)) (fun t _ => 6 - (RowKit.intOf t).toNat)
            case atStart => exact ⟨0, F5, x0, Nat.zero_le _, rfl, hid ⟨HS8.out.1, HS8.out.2, HM0.out⟩⟩
            case round =>
              obtain ⟨k, F', x, hk, rfl, HR⟩ := hrel
              clear HS8 HM0
              have hxm : x.length % 64 = 0 := by rw [HR.out.2.2.len]; omega
              by_cases hkl : k < fl
              · have hkl' : (k : Int) < (fl : Int) := by omega
                by_cases hk6 : k < 6
                · have hk6' : (k : Int) < 6 := by omega
                  obtain ⟨b, off, rfl, hbl, hcE⟩ := HA2.out.1.fs.here (by omega)
                  have HE0 : Hid (∀ w' : World, Below w2.heap.size w2 w' → w'.cell? ⟨b, off + k * 2, none⟩ = some (.int .i64 (E k).n) ∧ w'.cell? ⟨b, off + k * 2 + 1, none⟩ = some (.slice (E k).ka (E k).kl (E k).kc)) := fun w' hb => ⟨(hb.cell (p := ⟨b, off + k * 2, none⟩) hbl).trans (hcE k hkl).1, (hb.cell (p := ⟨b, off + k * 2 + 1, none⟩) hbl).trans (hcE k hkl).2⟩
                  have fkk := HA2.out.1.fs.each k hkl
                  have cE0 := (HE0.out wr HR.out.1.bel).1
                  have cA := HR.out.1.arm (E k).n fkk.n
                  have HCX : Hid (Cl x { St.new x with armed := max (E k).n 0 } ∧ Up { St.new x with armed := max (E k).n 0 }) := ⟨⟨rfl, (Cl.new hxm).nn, fun _ => rfl⟩, ⟨rfl, by show 0 ≤ max (E k).n 0; omega⟩⟩
                  have HFK := hid fkk
                  clear hcE fkk hxm
                  go_wp2_with (first
                    | (go_at_call 24; with_reducible refine cA.mono ?_; rintro e x1 ⟨rfl, s1, g1⟩; have l1 := (HA2.out.1.below s1.bel).lg; obtain ⟨q0, q1, q2⟩ := And.intro l1.c0 (And.intro l1.c1 l1.c2); have cR := s1.recover mk F R hg; have HS1 := hid (HR.out.2.1.goes g1); clear l1 s1 g1)
                    | (go_at_call 31; with_reducible refine cR.mono ?_; rintro e x2 ⟨rfl, F2, s2, g2⟩; have cE1 := (HE0.out x2 s2.bel).2; have ⟨x', hx', hm'⟩ := HR.out.2.2.step HC.out.1 HCX.out.1 HCX.out.2 s2.dev.ok (E k).kz; have cX := s2.crash (E k) HFK.out; rw [hx'] at cX; have HS2 := hid (And.intro (HS1.out.goes g2) hm'); clear s2 g2 hx' hm')
                    | (go_at_call 30; with_reducible refine cX.mono ?_; rintro e x3 ⟨rfl, s3, g3⟩; have HS3 := hid (And.intro s3 (And.intro (HS2.out.1.goes g3) HS2.out.2)); clear s3 g3))
                  go_roundw
                  case rel => exact ⟨k + 1, F2, x', by omega, by go_num, HS3⟩
                  case measure => simp [RowKit.intOf]; omega
                · have hk6' : ¬ ((k : Int) < 6) := by omega
                  obtain ⟨r0, x', hcl', hres, r1, r2, r3⟩ := HR.out.2.2.last HC.out.1 (Cl.new hxm) ⟨rfl, Int.le_refl _⟩ rfl
                  have hxl : x'.length = n := by
                    have := HZ.out.2.2.1
                    rcases hres with e | e
                    · rw [e.len, this]
                    · rw [e.2.len, this]
                  have cR := HR.out.1.recover mk F R hg
                  rw [r0] at cR
                  generalize recovS (St.new x) ⟨mk, F, R⟩ = S8 at *
                  generalize recovN (St.new x) ⟨mk, F, R⟩ = N8 at *
                  obtain ⟨X, hX⟩ : ∃ X, othersN ⟨mk, F, R⟩ x' N = X := ⟨_, rfl⟩
                  have HRS := hid (And.intro hcl' (And.intro hxl (And.intro hX hres)))
                  have HRR := hid (And.intro r1 (And.intro r2 r3))
                  obtain ⟨B, hBe⟩ : ∃ B, ((strOfNums X).toList == (strOfNums Y).toList) = B := ⟨_, rfl⟩
                  have HXY : Hid (B = true ∨ (B = false ∧ Ev = 5 ∧ othersN ⟨mk, F, R⟩ z N = X)) := by
                    cases B with
                    | true => exact Or.inl rfl
                    | false =>
                      refine Or.inr ⟨rfl, ?_⟩
                      rcases hres with q | q
                      · have e : X = Y := hX.symm.trans (q.others.trans HY.out)
                        rw [e] at hBe
                        simp at hBe
                      · refine ⟨?_, q.2.others.symm.trans hX⟩
                        rcases HC.out.2.1 with e0 | e5
                        · exact absurd e0 q.1
                        · exact e5
                  have l0 := (HA2.out.1.below HR.out.1.bel).lg
                  obtain ⟨p0, p1, p2⟩ := And.intro l0.c0 (And.intro l0.c1 l0.c2)
                  clear hcl' hxl hX hres r0 r1 r2 r3 hxm l0
                  rcases HXY.out with rfl | ⟨rfl, rfl, hZX⟩
                  · skip
                    go_wp2_with (first
                      | (go_at_call 31; with_reducible refine cR.mono ?_; rintro e y1 ⟨rfl, F1, s1, g1⟩; have cI := s1.image HRS.out.1 HRS.out.2.1; have HS1 := hid (And.intro s1 (HR.out.2.1.goes g1)); clear cR s1 g1 p0 p1 p2)
                      | (go_at_call 26; with_reducible refine cI.mono ?_; rintro e y2 ⟨gi, ci, rfl, oI, b2⟩; have s2 := HS1.out.1.below b2; have l2 := (HA2.out.1.below s2.bel).lg; obtain ⟨q0, q1, q2⟩ := And.intro l2.c0 (And.intro l2.c1 l2.c2); have cR2 := s2.recover mk F R hg; rw [HRR.out.1, HRR.out.2.1, HRR.out.2.2] at cR2; have HS2 := hid (And.intro (has_of HS1.out.1 oI) (HS1.out.2.below b2)); clear s2 l2 oI b2 cI)
                      | (go_at_call 31; with_reducible refine cR2.mono ?_; rintro e y3 ⟨rfl, F3, s3, g3⟩; have i3 := HS2.out.1.goes g3; have l3 := (HA2.out.1.below s3.bel).lg; obtain ⟨u0, u1, u2⟩ := And.intro l3.c0 (And.intro l3.c1 l3.c2); have cO := others_of mk F R (some ⟨gi, 0, none⟩) n N ci x' y3 hg i3.sl hn8 HZ.out.2.2.1 X HRS.out.2.2.1; have HS3 := hid (And.intro s3 (And.intro i3 (HS2.out.2.goes g3))); clear i3 l3 s3 g3 cR2 q0 q1 q2)
                      | (go_at_call 29; with_reducible refine cO.mono ?_; rintro e y4 ⟨rfl, b4⟩; have s4 := HS3.out.1.below b4; have l4 := (HA2.out.1.below s4.bel).lg; obtain ⟨v0, v1, v2⟩ := And.intro l4.c0 (And.intro l4.c1 l4.c2); have a4 := HS3.out.2.2.below b4; have cO2 := others_of mk F R (some ⟨ga, 0, none⟩) n N n _ y4 hg a4.sl hn8 HZ.out.2.2.1 Y HY.out; have HS4 := hid (And.intro s4 (HS3.out.2.1.below b4)); clear s4 l4 a4 b4 cO u0 u1 u2)
                      | (go_at_call 29; with_reducible refine cO2.mono ?_; rintro e y5 ⟨rfl, b5⟩; have HS5 := hid (And.intro (HS4.out.1.below b5) (HS4.out.2.below b5)); clear b5 cO2 v0 v1 v2))
                    have s5 := HS5.out.1.drew
                    have i5 := (HS5.out.2.below (w' := y5.drew) (below_drew (Below.refl _ _))).sl
                    have l5 := (HA2.out.1.below s5.bel).lg
                    refine wp_region_held_drew (S := fun w' => (w'.cell? ⟨w.heap.size, 0, none⟩ = some (.int .i64 (mk : Int)) ∧ w'.cell? ⟨w.heap.size, 1, none⟩ = some (.int .i64 F) ∧ w'.cell? ⟨w.heap.size, 2, none⟩ = some (.int .i64 R)) ∧ Sl .u8 w' (some ⟨gi, 0, none⟩) n ci x') (by kernel_rfl) ⟨⟨l5.c0, l5.c1, l5.c2⟩, i5⟩ (fun hH => ?_)
                    refine wpAnyH_take (i := 0) (v := ?_) (List.getElem?_toArray.trans rfl) (by kernel_rfl) (by kernel_rfl) (by kernel_rfl) (fun _ _ _ h => h) (Or.inl ⟨by rfl, ?_⟩) (by assumption) ?_
                    rotate_left
                    · (intro w hSw; obtain ⟨⟨h1, h2, h3⟩, h4⟩ := hSw; go_simp; try (with_reducible rfl))
                    simp only [Act.put, List.setIfInBounds_toArray, List.set_cons_zero, List.set_cons_succ]
                    refine wpAnyH_take (i := 1) (v := ?_) (List.getElem?_toArray.trans rfl) (by kernel_rfl) (by kernel_rfl) (by kernel_rfl) (fun _ _ _ h => h) (Or.inl ⟨by rfl, ?_⟩) (by assumption) ?_
                    rotate_left
                    · (intro w hSw; obtain ⟨⟨h1, h2, h3⟩, h4⟩ := hSw; go_simp; try (with_reducible rfl))
                    simp only [Act.put, List.setIfInBounds_toArray, List.set_cons_zero, List.set_cons_succ]
                    refine wpAnyH_take (i := 2) (v := ?_) (List.getElem?_toArray.trans rfl) (by kernel_rfl) (by kernel_rfl) (by kernel_rfl) (fun _ _ _ h => h) (Or.inl ⟨by rfl, ?_⟩) (by assumption) ?_
                    rotate_left
                    · (intro w hSw; obtain ⟨⟨h1, h2, h3⟩, h4⟩ := hSw; go_simp; try (with_reducible rfl))
                    simp only [Act.put, List.setIfInBounds_toArray, List.set_cons_zero, List.set_cons_succ]
                    refine wpAnyH_take (i := 3) (v := ?_) (List.getElem?_toArray.trans rfl) (by kernel_rfl) (by kernel_rfl) (by kernel_rfl) (fun _ _ _ h => h) (Or.inl ⟨by rfl, ?_⟩) (by assumption) ?_
                    rotate_left
                    · (intro w hSw; obtain ⟨⟨h1, h2, h3⟩, h4⟩ := hSw; go_simp; try (with_reducible rfl))
                    simp only [Act.put, List.setIfInBounds_toArray, List.set_cons_zero, List.set_cons_succ]
                    refine wpAnyH_ready (rs := [4]) (by kernel_rfl) (by simp) ?_
                    refine AllReadyH.cons (List.getElem?_toArray.trans rfl) (fun K3 hK3 => ?_) AllReadyH.nil
                    go_simp
                    refine (s5.dirty HRS.out.1).mono ?_
                    rintro e v1 ⟨di, dc, rfl, d1⟩
                    have m1 := l5.below d1
                    dsimp only
                    refine hK3.out _ _ ⟨⟨m1.c0, m1.c1, m1.c2⟩, i5.below d1⟩ (fun hHeld3 => ?_)
                    clear hK3 K3
                    refine wpAnyH_take (i := 5) (v := ?_) (List.getElem?_toArray.trans rfl) (by kernel_rfl) (by kernel_rfl) (by kernel_rfl) (fun _ _ _ h => h) (Or.inl ⟨by rfl, ?_⟩) (by assumption) ?_
                    rotate_left
                    · (intro w hSw; obtain ⟨⟨h1, h2, h3⟩, h4⟩ := hSw; go_simp; try (with_reducible rfl))
                    simp only [Act.put, List.setIfInBounds_toArray, List.set_cons_zero, List.set_cons_succ]
                    refine wpAnyH_take (i := 6) (v := ?_) (List.getElem?_toArray.trans rfl) (by kernel_rfl) (by kernel_rfl) (by kernel_rfl) (fun _ _ _ h => h) (Or.inl ⟨by rfl, ?_⟩) (by assumption) ?_
                    rotate_left
                    · (intro w hSw; obtain ⟨⟨h1, h2, h3⟩, h4⟩ := hSw; go_simp; try (with_reducible rfl))
                    simp only [Act.put, List.setIfInBounds_toArray, List.set_cons_zero, List.set_cons_succ]
                    refine wpAnyH_take (i := 7) (v := ?_) (List.getElem?_toArray.trans rfl) (by kernel_rfl) (by kernel_rfl) (by kernel_rfl) (fun _ _ _ h => h) (Or.inl ⟨by rfl, ?_⟩) (by assumption) ?_
                    rotate_left
                    · (intro w hSw; obtain ⟨⟨h1, h2, h3⟩, h4⟩ := hSw; go_simp; try (with_reducible rfl))
                    simp only [Act.put, List.setIfInBounds_toArray, List.set_cons_zero, List.set_cons_succ]
                    refine wpAnyH_take (i := 8) (v := ?_) (List.getElem?_toArray.trans rfl) (by kernel_rfl) (by kernel_rfl) (by kernel_rfl) (fun _ _ _ h => h) (Or.inl ⟨by rfl, ?_⟩) (by assumption) ?_
                    rotate_left
                    · (intro w hSw; obtain ⟨⟨h1, h2, h3⟩, h4⟩ := hSw; go_simp; try (with_reducible rfl))
                    simp only [Act.put, List.setIfInBounds_toArray, List.set_cons_zero, List.set_cons_succ]
                    refine wpAnyH_take (i := 9) (v := ?_) (List.getElem?_toArray.trans rfl) (by kernel_rfl) (by kernel_rfl) (by kernel_rfl) (fun _ _ _ h => h) (Or.inl ⟨by rfl, ?_⟩) (by assumption) ?_
                    rotate_left
                    · (intro w hSw; obtain ⟨⟨h1, h2, h3⟩, h4⟩ := hSw; go_simp; try (with_reducible rfl))
                    simp only [Act.put, List.setIfInBounds_toArray, List.set_cons_zero, List.set_cons_succ]
                    refine wpAnyH_take (i := 10) (v := ?_) (List.getElem?_toArray.trans rfl) (by kernel_rfl) (by kernel_rfl) (by kernel_rfl) (fun _ _ _ h => h) (Or.inl ⟨by rfl, ?_⟩) (by assumption) ?_
                    rotate_left
                    · (intro w hSw; obtain ⟨⟨h1, h2, h3⟩, h4⟩ := hSw; go_simp; try (with_reducible rfl))
                    simp only [Act.put, List.setIfInBounds_toArray, List.set_cons_zero, List.set_cons_succ]
                    refine wpAnyH_take (i := 11) (v := ?_) (List.getElem?_toArray.trans rfl) (by kernel_rfl) (by kernel_rfl) (by kernel_rfl) (fun _ _ _ h => h) (Or.inl ⟨by rfl, ?_⟩) (by assumption) ?_
                    rotate_left
                    · (intro w hSw; obtain ⟨⟨h1, h2, h3⟩, h4⟩ := hSw; go_simp; try (with_reducible rfl))
                    simp only [Act.put, List.setIfInBounds_toArray, List.set_cons_zero, List.set_cons_succ]
                    refine wpAnyH_take (i := 12) (v := ?_) (List.getElem?_toArray.trans rfl) (by kernel_rfl) (by kernel_rfl) (by kernel_rfl) (fun _ _ _ h => h) (Or.inl ⟨by rfl, ?_⟩) (by assumption) ?_
                    rotate_left
                    · (intro w hSw; obtain ⟨⟨h1, h2, h3⟩, h4⟩ := hSw; go_simp; try (with_reducible rfl))
                    simp only [Act.put, List.setIfInBounds_toArray, List.set_cons_zero, List.set_cons_succ]
                    refine wpAnyH_take (i := 13) (v := ?_) (List.getElem?_toArray.trans rfl) (by kernel_rfl) (by kernel_rfl) (by kernel_rfl) (fun _ _ _ h => h) (Or.inl ⟨by rfl, ?_⟩) (by assumption) ?_
                    rotate_left
                    · (intro w hSw; obtain ⟨⟨h1, h2, h3⟩, h4⟩ := hSw; go_simp; try (with_reducible rfl))
                    simp only [Act.put, List.setIfInBounds_toArray, List.set_cons_zero, List.set_cons_succ]
                    refine wpAnyH_take (i := 14) (v := ?_) (List.getElem?_toArray.trans rfl) (by kernel_rfl) (by kernel_rfl) (by kernel_rfl) (fun _ _ _ h => h) (Or.inl ⟨by rfl, ?_⟩) (by assumption) ?_
                    rotate_left
                    · (intro w hSw; obtain ⟨⟨h1, h2, h3⟩, h4⟩ := hSw; go_simp; try (with_reducible rfl))
                    simp only [Act.put, List.setIfInBounds_toArray, List.set_cons_zero, List.set_cons_succ]
                    refine wpAnyH_take (i := 15) (v := ?_) (List.getElem?_toArray.trans rfl) (by kernel_rfl) (by kernel_rfl) (by kernel_rfl) (fun _ _ _ h => h) (Or.inl ⟨by rfl, ?_⟩) (by assumption) ?_
                    rotate_left
                    · (intro w hSw; obtain ⟨⟨h1, h2, h3⟩, h4⟩ := hSw; go_simp; try (with_reducible rfl))
                    simp only [Act.put, List.setIfInBounds_toArray, List.set_cons_zero, List.set_cons_succ]
                    refine wpAnyH_take (i := 16) (v := ?_) (List.getElem?_toArray.trans rfl) (by kernel_rfl) (by kernel_rfl) (by kernel_rfl) (fun _ _ _ h => h) (Or.inl ⟨by rfl, ?_⟩) (by assumption) ?_
                    rotate_left
                    · (intro w hSw; obtain ⟨⟨h1, h2, h3⟩, h4⟩ := hSw; go_simp; try (with_reducible rfl))
                    simp only [Act.put, List.setIfInBounds_toArray, List.set_cons_zero, List.set_cons_succ]
                    refine wpAnyH_take (i := 17) (v := ?_) (List.getElem?_toArray.trans rfl) (by kernel_rfl) (by kernel_rfl) (by kernel_rfl) (fun _ _ _ h => h) (Or.inl ⟨by rfl, ?_⟩) (by assumption) ?_
                    rotate_left
                    · (intro w hSw; obtain ⟨⟨h1, h2, h3⟩, h4⟩ := hSw; go_simp; try (with_reducible rfl))
                    simp only [Act.put, List.setIfInBounds_toArray, List.set_cons_zero, List.set_cons_succ]
                    refine wpAnyH_take (i := 20) (v := ?_) (List.getElem?_toArray.trans rfl) (by kernel_rfl) (by kernel_rfl) (by kernel_rfl) (fun _ _ _ h => h) (Or.inl ⟨by rfl, ?_⟩) (by assumption) ?_
                    rotate_left
                    · (intro w hSw; obtain ⟨⟨h1, h2, h3⟩, h4⟩ := hSw; go_simp; try (with_reducible rfl))
                    simp only [Act.put, List.setIfInBounds_toArray, List.set_cons_zero, List.set_cons_succ]
                    refine wpAnyH_take (i := 21) (v := ?_) (List.getElem?_toArray.trans rfl) (by kernel_rfl) (by kernel_rfl) (by kernel_rfl) (fun _ _ _ h => h) (Or.inl ⟨by rfl, ?_⟩) (by assumption) ?_
                    rotate_left
                    · (intro w hSw; obtain ⟨⟨h1, h2, h3⟩, h4⟩ := hSw; have t4 := h4.text (P := Try.prog) Try.underlying27 Try.underlying5 Try.underlying9; go_simp; try (with_reducible rfl))
                    simp only [Act.put, List.setIfInBounds_toArray, List.set_cons_zero, List.set_cons_succ]
                    refine wpAnyH_ready (rs := [18]) (by kernel_rfl) (by simp) ?_
                    refine AllReadyH.cons (List.getElem?_toArray.trans rfl) (fun K3 hK3 => ?_) AllReadyH.nil
                    go_simp
                    refine ((s5.below d1).image HRS.out.1 HRS.out.2.1).mono ?_
                    rintro e v2 ⟨gj, cj, rfl, oJ, d2⟩
                    have m2 := m1.below d2
                    dsimp only
                    refine hK3.out _ _ ⟨⟨m2.c0, m2.c1, m2.c2⟩, (i5.below d1).below d2⟩ (fun hHeld3 => ?_)
                    clear hK3 K3
                    refine wpAnyH_ready (rs := [19]) (by kernel_rfl) (by simp) ?_
                    refine AllReadyH.cons (List.getElem?_toArray.trans rfl) (fun K3 hK3 => ?_) AllReadyH.nil
                    have t2 := oJ.sl.text (P := Try.prog) Try.underlying27 Try.underlying5 Try.underlying9
                    go_simp
                    refine hK3.out _ _ ⟨⟨m2.c0, m2.c1, m2.c2⟩, (i5.below d1).below d2⟩ (fun hHeld3 => ?_)
                    clear hK3 K3
                    refine wpAnyH_take (i := 22) (v := ?_) (List.getElem?_toArray.trans rfl) (by kernel_rfl) (by kernel_rfl) (by kernel_rfl) (fun _ _ _ h => h) (Or.inl ⟨by rfl, ?_⟩) (by assumption) ?_
                    rotate_left
                    · (intro w hSw; obtain ⟨⟨h1, h2, h3⟩, h4⟩ := hSw; go_simp; try (with_reducible rfl))
                    simp only [Act.put, List.setIfInBounds_toArray, List.set_cons_zero, List.set_cons_succ]
                    refine wpAnyH_take (i := 23) (v := ?_) (List.getElem?_toArray.trans rfl) (by kernel_rfl) (by kernel_rfl) (by kernel_rfl) (fun _ _ _ h => h) (Or.inl ⟨by rfl, ?_⟩) (by assumption) ?_
                    rotate_left
                    · (intro w hSw; obtain ⟨⟨h1, h2, h3⟩, h4⟩ := hSw; go_simp; try (with_reducible rfl))
                    simp only [Act.put, List.setIfInBounds_toArray, List.set_cons_zero, List.set_cons_succ]
                    refine wpAnyH_take (i := 24) (v := ?_) (List.getElem?_toArray.trans rfl) (by kernel_rfl) (by kernel_rfl) (by kernel_rfl) (fun _ _ _ h => h) (Or.inl ⟨by rfl, ?_⟩) (by assumption) ?_
                    rotate_left
                    · (intro w hSw; obtain ⟨⟨h1, h2, h3⟩, h4⟩ := hSw; go_simp; try (with_reducible rfl))
                    simp only [Act.put, List.setIfInBounds_toArray, List.set_cons_zero, List.set_cons_succ]
                    refine wpAnyH_take (i := 25) (v := ?_) (List.getElem?_toArray.trans rfl) (by kernel_rfl) (by kernel_rfl) (by kernel_rfl) (fun _ _ _ h => h) (Or.inl ⟨by rfl, ?_⟩) (by assumption) ?_
                    rotate_left
                    · (intro w hSw; obtain ⟨⟨h1, h2, h3⟩, h4⟩ := hSw; go_simp; try (with_reducible rfl))
                    simp only [Act.put, List.setIfInBounds_toArray, List.set_cons_zero, List.set_cons_succ]
                    refine wpAnyH_take (i := 26) (v := ?_) (List.getElem?_toArray.trans rfl) (by kernel_rfl) (by kernel_rfl) (by kernel_rfl) (fun _ _ _ h => h) (Or.inl ⟨by rfl, ?_⟩) (by assumption) ?_
                    rotate_left
                    · (intro w hSw; obtain ⟨⟨h1, h2, h3⟩, h4⟩ := hSw; go_simp; try (with_reducible rfl))
                    simp only [Act.put, List.setIfInBounds_toArray, List.set_cons_zero, List.set_cons_succ]
                    refine wpAnyH_take (i := 27) (v := undef) (List.getElem?_toArray.trans rfl) (by kernel_rfl) (by kernel_rfl) (by kernel_rfl) (fun _ _ _ h => h) (Or.inr ⟨by rfl, rfl⟩) (by assumption) ?_
                    simp only [Act.put, List.setIfInBounds_toArray, List.set_cons_zero, List.set_cons_succ]
                    refine wpAnyH_take (i := 28) (v := undef) (List.getElem?_toArray.trans rfl) (by kernel_rfl) (by kernel_rfl) (by kernel_rfl) (fun _ _ _ h => h) (Or.inr ⟨by rfl, rfl⟩) (by assumption) ?_
                    simp only [Act.put, List.setIfInBounds_toArray, List.set_cons_zero, List.set_cons_succ]
                    refine wpAnyH_take (i := 29) (v := undef) (List.getElem?_toArray.trans rfl) (by kernel_rfl) (by kernel_rfl) (by kernel_rfl) (fun _ _ _ h => h) (Or.inr ⟨by rfl, rfl⟩) (by assumption) ?_
                    simp only [Act.put, List.setIfInBounds_toArray, List.set_cons_zero, List.set_cons_succ]
                    refine wpAnyH_take (i := 30) (v := undef) (List.getElem?_toArray.trans rfl) (by kernel_rfl) (by kernel_rfl) (by kernel_rfl) (fun _ _ _ h => h) (Or.inr ⟨by rfl, rfl⟩) (by assumption) ?_
                    simp only [Act.put, List.setIfInBounds_toArray, List.set_cons_zero, List.set_cons_succ]
                    refine wpAnyH_take (i := 31) (v := undef) (List.getElem?_toArray.trans rfl) (by kernel_rfl) (by kernel_rfl) (by kernel_rfl) (fun _ _ _ h => h) (Or.inr ⟨by rfl, rfl⟩) (by assumption) ?_
                    simp only [Act.put, List.setIfInBounds_toArray, List.set_cons_zero, List.set_cons_succ]
                    refine wpAnyH_take (i := 32) (v := undef) (List.getElem?_toArray.trans rfl) (by kernel_rfl) (by kernel_rfl) (by kernel_rfl) (fun _ _ _ h => h) (Or.inr ⟨by rfl, rfl⟩) (by assumption) ?_
                    simp only [Act.put, List.setIfInBounds_toArray, List.set_cons_zero, List.set_cons_succ]
                    refine wpAnyH_take (i := 33) (v := undef) (List.getElem?_toArray.trans rfl) (by kernel_rfl) (by kernel_rfl) (by kernel_rfl) (fun _ _ _ h => h) (Or.inr ⟨by rfl, rfl⟩) (by assumption) ?_
                    simp only [Act.put, List.setIfInBounds_toArray, List.set_cons_zero, List.set_cons_succ]
                    refine wpAnyH_take (i := 34) (v := undef) (List.getElem?_toArray.trans rfl) (by kernel_rfl) (by kernel_rfl) (by kernel_rfl) (fun _ _ _ h => h) (Or.inr ⟨by rfl, rfl⟩) (by assumption) ?_
                    simp only [Act.put, List.setIfInBounds_toArray, List.set_cons_zero, List.set_cons_succ]
                    refine wpAnyH_take (i := 35) (v := undef) (List.getElem?_toArray.trans rfl) (by kernel_rfl) (by kernel_rfl) (by kernel_rfl) (fun _ _ _ h => h) (Or.inr ⟨by rfl, rfl⟩) (by assumption) ?_
                    simp only [Act.put, List.setIfInBounds_toArray, List.set_cons_zero, List.set_cons_succ]
                    refine wpAnyH_take (i := 36) (v := ?_) (List.getElem?_toArray.trans rfl) (by kernel_rfl) (by kernel_rfl) (by kernel_rfl) (fun _ _ _ h => h) (Or.inl ⟨by rfl, ?_⟩) (by assumption) ?_
                    rotate_left
                    · (intro w hSw; obtain ⟨⟨h1, h2, h3⟩, h4⟩ := hSw; go_simp; try (with_reducible rfl))
                    simp only [Act.put, List.setIfInBounds_toArray, List.set_cons_zero, List.set_cons_succ]
                    refine wpAnyH_take (i := 37) (v := ?_) (List.getElem?_toArray.trans rfl) (by kernel_rfl) (by kernel_rfl) (by kernel_rfl) (fun _ _ _ h => h) (Or.inl ⟨by rfl, ?_⟩) (by assumption) ?_
                    rotate_left
                    · (intro w hSw; obtain ⟨⟨h1, h2, h3⟩, h4⟩ := hSw; go_simp; try (with_reducible rfl))
                    simp only [Act.put, List.setIfInBounds_toArray, List.set_cons_zero, List.set_cons_succ]
                    refine wpAnyH_take (i := 38) (v := ?_) (List.getElem?_toArray.trans rfl) (by kernel_rfl) (by kernel_rfl) (by kernel_rfl) (fun _ _ _ h => h) (Or.inl ⟨by rfl, ?_⟩) (by assumption) ?_
                    rotate_left
                    · (intro w hSw; obtain ⟨⟨h1, h2, h3⟩, h4⟩ := hSw; go_simp; try (with_reducible rfl))
                    simp only [Act.put, List.setIfInBounds_toArray, List.set_cons_zero, List.set_cons_succ]
                    refine wpAnyH_done (by kernel_rfl) ?_ _
                    go_wp2
                    go_ret
                    exact ⟨by simp, next HA2.out.2 ((s5.below d1).below d2).bel⟩
                  · have HZX := hid hZX
                    clear hZX
                    go_wp2_with (first
                      | (go_at_call 31; with_reducible refine cR.mono ?_; rintro e y1 ⟨rfl, F1, s1, g1⟩; have cI := s1.image HRS.out.1 HRS.out.2.1; have HS1 := hid (And.intro s1 (HR.out.2.1.goes g1)); clear cR s1 g1 p0 p1 p2)
                      | (go_at_call 26; with_reducible refine cI.mono ?_; rintro e y2 ⟨gi, ci, rfl, oI, b2⟩; have s2 := HS1.out.1.below b2; have l2 := (HA2.out.1.below s2.bel).lg; obtain ⟨q0, q1, q2⟩ := And.intro l2.c0 (And.intro l2.c1 l2.c2); have cR2 := s2.recover mk F R hg; rw [HRR.out.1, HRR.out.2.1, HRR.out.2.2] at cR2; have HS2 := hid (And.intro (has_of HS1.out.1 oI) (HS1.out.2.below b2)); clear s2 l2 oI b2 cI)
                      | (go_at_call 31; with_reducible refine cR2.mono ?_; rintro e y3 ⟨rfl, F3, s3, g3⟩; have i3 := HS2.out.1.goes g3; have l3 := (HA2.out.1.below s3.bel).lg; obtain ⟨u0, u1, u2⟩ := And.intro l3.c0 (And.intro l3.c1 l3.c2); have cO := others_of mk F R (some ⟨gi, 0, none⟩) n N ci x' y3 hg i3.sl hn8 HZ.out.2.2.1 X HRS.out.2.2.1; have HS3 := hid (And.intro s3 (And.intro i3 (HS2.out.2.goes g3))); clear i3 l3 s3 g3 cR2 q0 q1 q2)
                      | (go_at_call 29; with_reducible refine cO.mono ?_; rintro e y4 ⟨rfl, b4⟩; have s4 := HS3.out.1.below b4; have l4 := (HA2.out.1.below s4.bel).lg; obtain ⟨v0, v1, v2⟩ := And.intro l4.c0 (And.intro l4.c1 l4.c2); have a4 := HS3.out.2.2.below b4; have cO2 := others_of mk F R (some ⟨ga, 0, none⟩) n N n _ y4 hg a4.sl hn8 HZ.out.2.2.1 Y HY.out; have HS4 := hid (And.intro s4 (HS3.out.2.1.below b4)); clear s4 l4 a4 b4 cO u0 u1 u2)
                      | (go_at_call 29; with_reducible refine cO2.mono ?_; rintro e y5 ⟨rfl, b5⟩; have HS5 := hid (And.intro (HS4.out.1.below b5) (HS4.out.2.below b5)); clear b5 cO2 v0 v1 v2))
                    have s5 := HS5.out.1.drew
                    have i5 := (HS5.out.2.below (w' := y5.drew) (below_drew (Below.refl _ _))).sl
                    have l5 := (HA2.out.1.below s5.bel).lg
                    refine wp_region_held_drew (S := fun w' => (w'.cell? ⟨w.heap.size, 0, none⟩ = some (.int .i64 (mk : Int)) ∧ w'.cell? ⟨w.heap.size, 1, none⟩ = some (.int .i64 F) ∧ w'.cell? ⟨w.heap.size, 2, none⟩ = some (.int .i64 R)) ∧ Sl .u8 w' (some ⟨gi, 0, none⟩) n ci x') (by kernel_rfl) ⟨⟨l5.c0, l5.c1, l5.c2⟩, i5⟩ (fun hH => ?_)
                    refine wpAnyH_take (i := 0) (v := ?_) (List.getElem?_toArray.trans rfl) (by kernel_rfl) (by kernel_rfl) (by kernel_rfl) (fun _ _ _ h => h) (Or.inl ⟨by rfl, ?_⟩) (by assumption) ?_
                    rotate_left
                    · (intro w hSw; obtain ⟨⟨h1, h2, h3⟩, h4⟩ := hSw; go_simp; try (with_reducible rfl))
                    simp only [Act.put, List.setIfInBounds_toArray, List.set_cons_zero, List.set_cons_succ]
                    refine wpAnyH_take (i := 1) (v := ?_) (List.getElem?_toArray.trans rfl) (by kernel_rfl) (by kernel_rfl) (by kernel_rfl) (fun _ _ _ h => h) (Or.inl ⟨by rfl, ?_⟩) (by assumption) ?_
                    rotate_left
                    · (intro w hSw; obtain ⟨⟨h1, h2, h3⟩, h4⟩ := hSw; go_simp; try (with_reducible rfl))
                    simp only [Act.put, List.setIfInBounds_toArray, List.set_cons_zero, List.set_cons_succ]
                    refine wpAnyH_take (i := 2) (v := ?_) (List.getElem?_toArray.trans rfl) (by kernel_rfl) (by kernel_rfl) (by kernel_rfl) (fun _ _ _ h => h) (Or.inl ⟨by rfl, ?_⟩) (by assumption) ?_
                    rotate_left
                    · (intro w hSw; obtain ⟨⟨h1, h2, h3⟩, h4⟩ := hSw; go_simp; try (with_reducible rfl))
                    simp only [Act.put, List.setIfInBounds_toArray, List.set_cons_zero, List.set_cons_succ]
                    refine wpAnyH_take (i := 3) (v := ?_) (List.getElem?_toArray.trans rfl) (by kernel_rfl) (by kernel_rfl) (by kernel_rfl) (fun _ _ _ h => h) (Or.inl ⟨by rfl, ?_⟩) (by assumption) ?_
                    rotate_left
                    · (intro w hSw; obtain ⟨⟨h1, h2, h3⟩, h4⟩ := hSw; go_simp; try (with_reducible rfl))
                    simp only [Act.put, List.setIfInBounds_toArray, List.set_cons_zero, List.set_cons_succ]
                    refine wpAnyH_ready (rs := [4]) (by kernel_rfl) (by simp) ?_
                    refine AllReadyH.cons (List.getElem?_toArray.trans rfl) (fun K3 hK3 => ?_) AllReadyH.nil
                    go_simp
                    refine (s5.dirty HRS.out.1).mono ?_
                    rintro e v1 ⟨di, dc, rfl, d1⟩
                    have m1 := l5.below d1
                    dsimp only
                    refine hK3.out _ _ ⟨⟨m1.c0, m1.c1, m1.c2⟩, i5.below d1⟩ (fun hHeld3 => ?_)
                    clear hK3 K3
                    refine wpAnyH_take (i := 5) (v := ?_) (List.getElem?_toArray.trans rfl) (by kernel_rfl) (by kernel_rfl) (by kernel_rfl) (fun _ _ _ h => h) (Or.inl ⟨by rfl, ?_⟩) (by assumption) ?_
                    rotate_left
                    · (intro w hSw; obtain ⟨⟨h1, h2, h3⟩, h4⟩ := hSw; go_simp; try (with_reducible rfl))
                    simp only [Act.put, List.setIfInBounds_toArray, List.set_cons_zero, List.set_cons_succ]
                    refine wpAnyH_take (i := 6) (v := ?_) (List.getElem?_toArray.trans rfl) (by kernel_rfl) (by kernel_rfl) (by kernel_rfl) (fun _ _ _ h => h) (Or.inl ⟨by rfl, ?_⟩) (by assumption) ?_
                    rotate_left
                    · (intro w hSw; obtain ⟨⟨h1, h2, h3⟩, h4⟩ := hSw; go_simp; try (with_reducible rfl))
                    simp only [Act.put, List.setIfInBounds_toArray, List.set_cons_zero, List.set_cons_succ]
                    refine wpAnyH_take (i := 7) (v := ?_) (List.getElem?_toArray.trans rfl) (by kernel_rfl) (by kernel_rfl) (by kernel_rfl) (fun _ _ _ h => h) (Or.inl ⟨by rfl, ?_⟩) (by assumption) ?_
                    rotate_left
                    · (intro w hSw; obtain ⟨⟨h1, h2, h3⟩, h4⟩ := hSw; go_simp; try (with_reducible rfl))
                    simp only [Act.put, List.setIfInBounds_toArray, List.set_cons_zero, List.set_cons_succ]
                    refine wpAnyH_take (i := 8) (v := ?_) (List.getElem?_toArray.trans rfl) (by kernel_rfl) (by kernel_rfl) (by kernel_rfl) (fun _ _ _ h => h) (Or.inl ⟨by rfl, ?_⟩) (by assumption) ?_
                    rotate_left
                    · (intro w hSw; obtain ⟨⟨h1, h2, h3⟩, h4⟩ := hSw; go_simp; try (with_reducible rfl))
                    simp only [Act.put, List.setIfInBounds_toArray, List.set_cons_zero, List.set_cons_succ]
                    refine wpAnyH_take (i := 9) (v := ?_) (List.getElem?_toArray.trans rfl) (by kernel_rfl) (by kernel_rfl) (by kernel_rfl) (fun _ _ _ h => h) (Or.inl ⟨by rfl, ?_⟩) (by assumption) ?_
                    rotate_left
                    · (intro w hSw; obtain ⟨⟨h1, h2, h3⟩, h4⟩ := hSw; go_simp; try (with_reducible rfl))
                    simp only [Act.put, List.setIfInBounds_toArray, List.set_cons_zero, List.set_cons_succ]
                    refine wpAnyH_take (i := 10) (v := ?_) (List.getElem?_toArray.trans rfl) (by kernel_rfl) (by kernel_rfl) (by kernel_rfl) (fun _ _ _ h => h) (Or.inl ⟨by rfl, ?_⟩) (by assumption) ?_
                    rotate_left
                    · (intro w hSw; obtain ⟨⟨h1, h2, h3⟩, h4⟩ := hSw; go_simp; try (with_reducible rfl))
                    simp only [Act.put, List.setIfInBounds_toArray, List.set_cons_zero, List.set_cons_succ]
                    refine wpAnyH_take (i := 11) (v := ?_) (List.getElem?_toArray.trans rfl) (by kernel_rfl) (by kernel_rfl) (by kernel_rfl) (fun _ _ _ h => h) (Or.inl ⟨by rfl, ?_⟩) (by assumption) ?_
                    rotate_left
                    · (intro w hSw; obtain ⟨⟨h1, h2, h3⟩, h4⟩ := hSw; go_simp; try (with_reducible rfl))
                    simp only [Act.put, List.setIfInBounds_toArray, List.set_cons_zero, List.set_cons_succ]
                    refine wpAnyH_take (i := 12) (v := ?_) (List.getElem?_toArray.trans rfl) (by kernel_rfl) (by kernel_rfl) (by kernel_rfl) (fun _ _ _ h => h) (Or.inl ⟨by rfl, ?_⟩) (by assumption) ?_
                    rotate_left
                    · (intro w hSw; obtain ⟨⟨h1, h2, h3⟩, h4⟩ := hSw; go_simp; try (with_reducible rfl))
                    simp only [Act.put, List.setIfInBounds_toArray, List.set_cons_zero, List.set_cons_succ]
                    refine wpAnyH_take (i := 13) (v := ?_) (List.getElem?_toArray.trans rfl) (by kernel_rfl) (by kernel_rfl) (by kernel_rfl) (fun _ _ _ h => h) (Or.inl ⟨by rfl, ?_⟩) (by assumption) ?_
                    rotate_left
                    · (intro w hSw; obtain ⟨⟨h1, h2, h3⟩, h4⟩ := hSw; go_simp; try (with_reducible rfl))
                    simp only [Act.put, List.setIfInBounds_toArray, List.set_cons_zero, List.set_cons_succ]
                    refine wpAnyH_take (i := 14) (v := ?_) (List.getElem?_toArray.trans rfl) (by kernel_rfl) (by kernel_rfl) (by kernel_rfl) (fun _ _ _ h => h) (Or.inl ⟨by rfl, ?_⟩) (by assumption) ?_
                    rotate_left
                    · (intro w hSw; obtain ⟨⟨h1, h2, h3⟩, h4⟩ := hSw; go_simp; try (with_reducible rfl))
                    simp only [Act.put, List.setIfInBounds_toArray, List.set_cons_zero, List.set_cons_succ]
                    refine wpAnyH_take (i := 15) (v := ?_) (List.getElem?_toArray.trans rfl) (by kernel_rfl) (by kernel_rfl) (by kernel_rfl) (fun _ _ _ h => h) (Or.inl ⟨by rfl, ?_⟩) (by assumption) ?_
                    rotate_left
                    · (intro w hSw; obtain ⟨⟨h1, h2, h3⟩, h4⟩ := hSw; go_simp; try (with_reducible rfl))
                    simp only [Act.put, List.setIfInBounds_toArray, List.set_cons_zero, List.set_cons_succ]
                    refine wpAnyH_take (i := 16) (v := ?_) (List.getElem?_toArray.trans rfl) (by kernel_rfl) (by kernel_rfl) (by kernel_rfl) (fun _ _ _ h => h) (Or.inl ⟨by rfl, ?_⟩) (by assumption) ?_
                    rotate_left
                    · (intro w hSw; obtain ⟨⟨h1, h2, h3⟩, h4⟩ := hSw; go_simp; try (with_reducible rfl))
                    simp only [Act.put, List.setIfInBounds_toArray, List.set_cons_zero, List.set_cons_succ]
                    refine wpAnyH_take (i := 17) (v := ?_) (List.getElem?_toArray.trans rfl) (by kernel_rfl) (by kernel_rfl) (by kernel_rfl) (fun _ _ _ h => h) (Or.inl ⟨by rfl, ?_⟩) (by assumption) ?_
                    rotate_left
                    · (intro w hSw; obtain ⟨⟨h1, h2, h3⟩, h4⟩ := hSw; go_simp; try (with_reducible rfl))
                    simp only [Act.put, List.setIfInBounds_toArray, List.set_cons_zero, List.set_cons_succ]
                    refine wpAnyH_take (i := 20) (v := ?_) (List.getElem?_toArray.trans rfl) (by kernel_rfl) (by kernel_rfl) (by kernel_rfl) (fun _ _ _ h => h) (Or.inl ⟨by rfl, ?_⟩) (by assumption) ?_
                    rotate_left
                    · (intro w hSw; obtain ⟨⟨h1, h2, h3⟩, h4⟩ := hSw; go_simp; try (with_reducible rfl))
                    simp only [Act.put, List.setIfInBounds_toArray, List.set_cons_zero, List.set_cons_succ]
                    refine wpAnyH_take (i := 21) (v := ?_) (List.getElem?_toArray.trans rfl) (by kernel_rfl) (by kernel_rfl) (by kernel_rfl) (fun _ _ _ h => h) (Or.inl ⟨by rfl, ?_⟩) (by assumption) ?_
                    rotate_left
                    · (intro w hSw; obtain ⟨⟨h1, h2, h3⟩, h4⟩ := hSw; have t4 := h4.text (P := Try.prog) Try.underlying27 Try.underlying5 Try.underlying9; go_simp; try (with_reducible rfl))
                    simp only [Act.put, List.setIfInBounds_toArray, List.set_cons_zero, List.set_cons_succ]
                    refine wpAnyH_ready (rs := [18]) (by kernel_rfl) (by simp) ?_
                    refine AllReadyH.cons (List.getElem?_toArray.trans rfl) (fun K3 hK3 => ?_) AllReadyH.nil
                    go_simp
                    refine ((s5.below d1).image HRS.out.1 HRS.out.2.1).mono ?_
                    rintro e v2 ⟨gj, cj, rfl, oJ, d2⟩
                    have m2 := m1.below d2
                    dsimp only
                    refine hK3.out _ _ ⟨⟨m2.c0, m2.c1, m2.c2⟩, (i5.below d1).below d2⟩ (fun hHeld3 => ?_)
                    clear hK3 K3
                    refine wpAnyH_ready (rs := [19]) (by kernel_rfl) (by simp) ?_
                    refine AllReadyH.cons (List.getElem?_toArray.trans rfl) (fun K3 hK3 => ?_) AllReadyH.nil
                    have t2 := oJ.sl.text (P := Try.prog) Try.underlying27 Try.underlying5 Try.underlying9
                    go_simp
                    refine hK3.out _ _ ⟨⟨m2.c0, m2.c1, m2.c2⟩, (i5.below d1).below d2⟩ (fun hHeld3 => ?_)
                    clear hK3 K3
                    refine wpAnyH_take (i := 22) (v := ?_) (List.getElem?_toArray.trans rfl) (by kernel_rfl) (by kernel_rfl) (by kernel_rfl) (fun _ _ _ h => h) (Or.inl ⟨by rfl, ?_⟩) (by assumption) ?_
                    rotate_left
                    · (intro w hSw; obtain ⟨⟨h1, h2, h3⟩, h4⟩ := hSw; go_simp; try (with_reducible rfl))
                    simp only [Act.put, List.setIfInBounds_toArray, List.set_cons_zero, List.set_cons_succ]
                    refine wpAnyH_take (i := 23) (v := ?_) (List.getElem?_toArray.trans rfl) (by kernel_rfl) (by kernel_rfl) (by kernel_rfl) (fun _ _ _ h => h) (Or.inl ⟨by rfl, ?_⟩) (by assumption) ?_
                    rotate_left
                    · (intro w hSw; obtain ⟨⟨h1, h2, h3⟩, h4⟩ := hSw; go_simp; try (with_reducible rfl))
                    simp only [Act.put, List.setIfInBounds_toArray, List.set_cons_zero, List.set_cons_succ]
                    refine wpAnyH_take (i := 24) (v := ?_) (List.getElem?_toArray.trans rfl) (by kernel_rfl) (by kernel_rfl) (by kernel_rfl) (fun _ _ _ h => h) (Or.inl ⟨by rfl, ?_⟩) (by assumption) ?_
                    rotate_left
                    · (intro w hSw; obtain ⟨⟨h1, h2, h3⟩, h4⟩ := hSw; go_simp; try (with_reducible rfl))
                    simp only [Act.put, List.setIfInBounds_toArray, List.set_cons_zero, List.set_cons_succ]
                    refine wpAnyH_take (i := 25) (v := ?_) (List.getElem?_toArray.trans rfl) (by kernel_rfl) (by kernel_rfl) (by kernel_rfl) (fun _ _ _ h => h) (Or.inl ⟨by rfl, ?_⟩) (by assumption) ?_
                    rotate_left
                    · (intro w hSw; obtain ⟨⟨h1, h2, h3⟩, h4⟩ := hSw; go_simp; try (with_reducible rfl))
                    simp only [Act.put, List.setIfInBounds_toArray, List.set_cons_zero, List.set_cons_succ]
                    refine wpAnyH_take (i := 26) (v := ?_) (List.getElem?_toArray.trans rfl) (by kernel_rfl) (by kernel_rfl) (by kernel_rfl) (fun _ _ _ h => h) (Or.inl ⟨by rfl, ?_⟩) (by assumption) ?_
                    rotate_left
                    · (intro w hSw; obtain ⟨⟨h1, h2, h3⟩, h4⟩ := hSw; go_simp; try (with_reducible rfl))
                    simp only [Act.put, List.setIfInBounds_toArray, List.set_cons_zero, List.set_cons_succ]
                    refine wpAnyH_take (i := 27) (v := ?_) (List.getElem?_toArray.trans rfl) (by kernel_rfl) (by kernel_rfl) (by kernel_rfl) (fun _ _ _ h => h) (Or.inl ⟨by rfl, ?_⟩) (by assumption) ?_
                    rotate_left
                    · (intro w hSw; obtain ⟨⟨h1, h2, h3⟩, h4⟩ := hSw; go_simp; try (with_reducible rfl))
                    simp only [Act.put, List.setIfInBounds_toArray, List.set_cons_zero, List.set_cons_succ]
                    refine wpAnyH_take (i := 28) (v := ?_) (List.getElem?_toArray.trans rfl) (by kernel_rfl) (by kernel_rfl) (by kernel_rfl) (fun _ _ _ h => h) (Or.inl ⟨by rfl, ?_⟩) (by assumption) ?_
                    rotate_left
                    · (intro w hSw; obtain ⟨⟨h1, h2, h3⟩, h4⟩ := hSw; go_simp; try (with_reducible rfl))
                    simp only [Act.put, List.setIfInBounds_toArray, List.set_cons_zero, List.set_cons_succ]
                    refine wpAnyH_take (i := 29) (v := ?_) (List.getElem?_toArray.trans rfl) (by kernel_rfl) (by kernel_rfl) (by kernel_rfl) (fun _ _ _ h => h) (Or.inl ⟨by rfl, ?_⟩) (by assumption) ?_
                    rotate_left
                    · (intro w hSw; obtain ⟨⟨h1, h2, h3⟩, h4⟩ := hSw; go_simp; try (with_reducible rfl))
                    simp only [Act.put, List.setIfInBounds_toArray, List.set_cons_zero, List.set_cons_succ]
                    refine wpAnyH_take (i := 30) (v := ?_) (List.getElem?_toArray.trans rfl) (by kernel_rfl) (by kernel_rfl) (by kernel_rfl) (fun _ _ _ h => h) (Or.inl ⟨by rfl, ?_⟩) (by assumption) ?_
                    rotate_left
                    · (intro w hSw; obtain ⟨⟨h1, h2, h3⟩, h4⟩ := hSw; go_simp; try (with_reducible rfl))
                    simp only [Act.put, List.setIfInBounds_toArray, List.set_cons_zero, List.set_cons_succ]
                    refine wpAnyH_take (i := 31) (v := ?_) (List.getElem?_toArray.trans rfl) (by kernel_rfl) (by kernel_rfl) (by kernel_rfl) (fun _ _ _ h => h) (Or.inl ⟨by rfl, ?_⟩) (by assumption) ?_
                    rotate_left
                    · (intro w hSw; obtain ⟨⟨h1, h2, h3⟩, h4⟩ := hSw; go_simp; try (with_reducible rfl))
                    simp only [Act.put, List.setIfInBounds_toArray, List.set_cons_zero, List.set_cons_succ]
                    refine wpAnyH_take (i := 32) (v := ?_) (List.getElem?_toArray.trans rfl) (by kernel_rfl) (by kernel_rfl) (by kernel_rfl) (fun _ _ _ h => h) (Or.inl ⟨by rfl, ?_⟩) (by assumption) ?_
                    rotate_left
                    · (intro w hSw; obtain ⟨⟨h1, h2, h3⟩, h4⟩ := hSw; go_simp; try (with_reducible rfl))
                    simp only [Act.put, List.setIfInBounds_toArray, List.set_cons_zero, List.set_cons_succ]
                    refine wpAnyH_ready (rs := [33]) (by kernel_rfl) (by simp) ?_
                    refine AllReadyH.cons (List.getElem?_toArray.trans rfl) (fun K3 hK3 => ?_) AllReadyH.nil
                    go_simp
                    refine (others_of mk F R a0 n N cap z v2 hg (HA2.out.1.below ((s5.below d1).below d2).bel).im hn8 HZ.out.2.2.1 X HZX.out).mono ?_
                    rintro e v3 ⟨rfl, d3⟩
                    have m3 := m2.below d3
                    dsimp only
                    refine hK3.out _ _ ⟨⟨m3.c0, m3.c1, m3.c2⟩, ((i5.below d1).below d2).below d3⟩ (fun hHeld3 => ?_)
                    clear hK3 K3
                    refine wpAnyH_take (i := 34) (v := ?_) (List.getElem?_toArray.trans rfl) (by kernel_rfl) (by kernel_rfl) (by kernel_rfl) (fun _ _ _ h => h) (Or.inl ⟨by rfl, ?_⟩) (by assumption) ?_
                    rotate_left
                    · (intro w hSw; obtain ⟨⟨h1, h2, h3⟩, h4⟩ := hSw; go_simp; try (with_reducible rfl))
                    simp only [Act.put, List.setIfInBounds_toArray, List.set_cons_zero, List.set_cons_succ]
                    refine wpAnyH_take (i := 35) (v := ?_) (List.getElem?_toArray.trans rfl) (by kernel_rfl) (by kernel_rfl) (by kernel_rfl) (fun _ _ _ h => h) (Or.inl ⟨by rfl, ?_⟩) (by assumption) ?_
                    rotate_left
                    · (intro w hSw; obtain ⟨⟨h1, h2, h3⟩, h4⟩ := hSw; go_simp; try (with_reducible rfl))
                    simp only [Act.put, List.setIfInBounds_toArray, List.set_cons_zero, List.set_cons_succ]
                    refine wpAnyH_take (i := 36) (v := ?_) (List.getElem?_toArray.trans rfl) (by kernel_rfl) (by kernel_rfl) (by kernel_rfl) (fun _ _ _ h => h) (Or.inl ⟨by rfl, ?_⟩) (by assumption) ?_
                    rotate_left
                    · (intro w hSw; obtain ⟨⟨h1, h2, h3⟩, h4⟩ := hSw; go_simp; try (with_reducible rfl))
                    simp only [Act.put, List.setIfInBounds_toArray, List.set_cons_zero, List.set_cons_succ]
                    refine wpAnyH_take (i := 37) (v := ?_) (List.getElem?_toArray.trans rfl) (by kernel_rfl) (by kernel_rfl) (by kernel_rfl) (fun _ _ _ h => h) (Or.inl ⟨by rfl, ?_⟩) (by assumption) ?_
                    rotate_left
                    · (intro w hSw; obtain ⟨⟨h1, h2, h3⟩, h4⟩ := hSw; go_simp; try (with_reducible rfl))
                    simp only [Act.put, List.setIfInBounds_toArray, List.set_cons_zero, List.set_cons_succ]
                    refine wpAnyH_take (i := 38) (v := ?_) (List.getElem?_toArray.trans rfl) (by kernel_rfl) (by kernel_rfl) (by kernel_rfl) (fun _ _ _ h => h) (Or.inl ⟨by rfl, ?_⟩) (by assumption) ?_
                    rotate_left
                    · (intro w hSw; obtain ⟨⟨h1, h2, h3⟩, h4⟩ := hSw; go_simp; try (with_reducible rfl))
                    simp only [Act.put, List.setIfInBounds_toArray, List.set_cons_zero, List.set_cons_succ]
                    refine wpAnyH_done (by kernel_rfl) ?_ _
                    go_wp2
                    go_ret
                    exact ⟨by simp, next HA2.out.2 (((s5.below d1).below d2).below d3).bel⟩
              · have hkl' : ¬ ((k : Int) < (fl : Int)) := by omega
                obtain ⟨r0, x', hcl', hres, r1, r2, r3⟩ := HR.out.2.2.last HC.out.1 (Cl.new hxm) ⟨rfl, Int.le_refl _⟩ rfl
                have hxl : x'.length = n := by
                  have := HZ.out.2.2.1
                  rcases hres with e | e
                  · rw [e.len, this]
                  · rw [e.2.len, this]
                have cR := HR.out.1.recover mk F R hg
                rw [r0] at cR
                generalize recovS (St.new x) ⟨mk, F, R⟩ = S8 at *
                generalize recovN (St.new x) ⟨mk, F, R⟩ = N8 at *
                obtain ⟨X, hX⟩ : ∃ X, othersN ⟨mk, F, R⟩ x' N = X := ⟨_, rfl⟩
                have HRS := hid (And.intro hcl' (And.intro hxl (And.intro hX hres)))
                have HRR := hid (And.intro r1 (And.intro r2 r3))
                obtain ⟨B, hBe⟩ : ∃ B, ((strOfNums X).toList == (strOfNums Y).toList) = B := ⟨_, rfl⟩
                have HXY : Hid (B = true ∨ (B = false ∧ Ev = 5 ∧ othersN ⟨mk, F, R⟩ z N = X)) := by
                  cases B with
                  | true => exact Or.inl rfl
                  | false =>
                    refine Or.inr ⟨rfl, ?_⟩
                    rcases hres with q | q
                    · have e : X = Y := hX.symm.trans (q.others.trans HY.out)
                      rw [e] at hBe
                      simp at hBe
                    · refine ⟨?_, q.2.others.symm.trans hX⟩
                      rcases HC.out.2.1 with e0 | e5
                      · exact absurd e0 q.1
                      · exact e5
                have l0 := (HA2.out.1.below HR.out.1.bel).lg
                obtain ⟨p0, p1, p2⟩ := And.intro l0.c0 (And.intro l0.c1 l0.c2)
                clear hcl' hxl hX hres r0 r1 r2 r3 hxm l0
                rcases HXY.out with rfl | ⟨rfl, rfl, hZX⟩
                · skip
                  go_wp2_with (first
                    | (go_at_call 31; with_reducible refine cR.mono ?_; rintro e y1 ⟨rfl, F1, s1, g1⟩; have cI := s1.image HRS.out.1 HRS.out.2.1; have HS1 := hid (And.intro s1 (HR.out.2.1.goes g1)); clear cR s1 g1 p0 p1 p2)
                    | (go_at_call 26; with_reducible refine cI.mono ?_; rintro e y2 ⟨gi, ci, rfl, oI, b2⟩; have s2 := HS1.out.1.below b2; have l2 := (HA2.out.1.below s2.bel).lg; obtain ⟨q0, q1, q2⟩ := And.intro l2.c0 (And.intro l2.c1 l2.c2); have cR2 := s2.recover mk F R hg; rw [HRR.out.1, HRR.out.2.1, HRR.out.2.2] at cR2; have HS2 := hid (And.intro (has_of HS1.out.1 oI) (HS1.out.2.below b2)); clear s2 l2 oI b2 cI)
                    | (go_at_call 31; with_reducible refine cR2.mono ?_; rintro e y3 ⟨rfl, F3, s3, g3⟩; have i3 := HS2.out.1.goes g3; have l3 := (HA2.out.1.below s3.bel).lg; obtain ⟨u0, u1, u2⟩ := And.intro l3.c0 (And.intro l3.c1 l3.c2); have cO := others_of mk F R (some ⟨gi, 0, none⟩) n N ci x' y3 hg i3.sl hn8 HZ.out.2.2.1 X HRS.out.2.2.1; have HS3 := hid (And.intro s3 (And.intro i3 (HS2.out.2.goes g3))); clear i3 l3 s3 g3 cR2 q0 q1 q2)
                    | (go_at_call 29; with_reducible refine cO.mono ?_; rintro e y4 ⟨rfl, b4⟩; have s4 := HS3.out.1.below b4; have l4 := (HA2.out.1.below s4.bel).lg; obtain ⟨v0, v1, v2⟩ := And.intro l4.c0 (And.intro l4.c1 l4.c2); have a4 := HS3.out.2.2.below b4; have cO2 := others_of mk F R (some ⟨ga, 0, none⟩) n N n _ y4 hg a4.sl hn8 HZ.out.2.2.1 Y HY.out; have HS4 := hid (And.intro s4 (HS3.out.2.1.below b4)); clear s4 l4 a4 b4 cO u0 u1 u2)
                    | (go_at_call 29; with_reducible refine cO2.mono ?_; rintro e y5 ⟨rfl, b5⟩; have HS5 := hid (And.intro (HS4.out.1.below b5) (HS4.out.2.below b5)); clear b5 cO2 v0 v1 v2))
                  have s5 := HS5.out.1.drew
                  have i5 := (HS5.out.2.below (w' := y5.drew) (below_drew (Below.refl _ _))).sl
                  have l5 := (HA2.out.1.below s5.bel).lg
                  refine wp_region_held_drew (S := fun w' => (w'.cell? ⟨w.heap.size, 0, none⟩ = some (.int .i64 (mk : Int)) ∧ w'.cell? ⟨w.heap.size, 1, none⟩ = some (.int .i64 F) ∧ w'.cell? ⟨w.heap.size, 2, none⟩ = some (.int .i64 R)) ∧ Sl .u8 w' (some ⟨gi, 0, none⟩) n ci x') (by kernel_rfl) ⟨⟨l5.c0, l5.c1, l5.c2⟩, i5⟩ (fun hH => ?_)
                  refine wpAnyH_take (i := 0) (v := ?_) (List.getElem?_toArray.trans rfl) (by kernel_rfl) (by kernel_rfl) (by kernel_rfl) (fun _ _ _ h => h) (Or.inl ⟨by rfl, ?_⟩) (by assumption) ?_
                  rotate_left
                  · (intro w hSw; obtain ⟨⟨h1, h2, h3⟩, h4⟩ := hSw; go_simp; try (with_reducible rfl))
                  simp only [Act.put, List.setIfInBounds_toArray, List.set_cons_zero, List.set_cons_succ]
                  refine wpAnyH_take (i := 1) (v := ?_) (List.getElem?_toArray.trans rfl) (by kernel_rfl) (by kernel_rfl) (by kernel_rfl) (fun _ _ _ h => h) (Or.inl ⟨by rfl, ?_⟩) (by assumption) ?_
                  rotate_left
                  · (intro w hSw; obtain ⟨⟨h1, h2, h3⟩, h4⟩ := hSw; go_simp; try (with_reducible rfl))
                  simp only [Act.put, List.setIfInBounds_toArray, List.set_cons_zero, List.set_cons_succ]
                  refine wpAnyH_take (i := 2) (v := ?_) (List.getElem?_toArray.trans rfl) (by kernel_rfl) (by kernel_rfl) (by kernel_rfl) (fun _ _ _ h => h) (Or.inl ⟨by rfl, ?_⟩) (by assumption) ?_
                  rotate_left
                  · (intro w hSw; obtain ⟨⟨h1, h2, h3⟩, h4⟩ := hSw; go_simp; try (with_reducible rfl))
                  simp only [Act.put, List.setIfInBounds_toArray, List.set_cons_zero, List.set_cons_succ]
                  refine wpAnyH_take (i := 3) (v := ?_) (List.getElem?_toArray.trans rfl) (by kernel_rfl) (by kernel_rfl) (by kernel_rfl) (fun _ _ _ h => h) (Or.inl ⟨by rfl, ?_⟩) (by assumption) ?_
                  rotate_left
                  · (intro w hSw; obtain ⟨⟨h1, h2, h3⟩, h4⟩ := hSw; go_simp; try (with_reducible rfl))
                  simp only [Act.put, List.setIfInBounds_toArray, List.set_cons_zero, List.set_cons_succ]
                  refine wpAnyH_ready (rs := [4]) (by kernel_rfl) (by simp) ?_
                  refine AllReadyH.cons (List.getElem?_toArray.trans rfl) (fun K3 hK3 => ?_) AllReadyH.nil
                  go_simp
                  refine (s5.dirty HRS.out.1).mono ?_
                  rintro e v1 ⟨di, dc, rfl, d1⟩
                  have m1 := l5.below d1
                  dsimp only
                  refine hK3.out _ _ ⟨⟨m1.c0, m1.c1, m1.c2⟩, i5.below d1⟩ (fun hHeld3 => ?_)
                  clear hK3 K3
                  refine wpAnyH_take (i := 5) (v := ?_) (List.getElem?_toArray.trans rfl) (by kernel_rfl) (by kernel_rfl) (by kernel_rfl) (fun _ _ _ h => h) (Or.inl ⟨by rfl, ?_⟩) (by assumption) ?_
                  rotate_left
                  · (intro w hSw; obtain ⟨⟨h1, h2, h3⟩, h4⟩ := hSw; go_simp; try (with_reducible rfl))
                  simp only [Act.put, List.setIfInBounds_toArray, List.set_cons_zero, List.set_cons_succ]
                  refine wpAnyH_take (i := 6) (v := ?_) (List.getElem?_toArray.trans rfl) (by kernel_rfl) (by kernel_rfl) (by kernel_rfl) (fun _ _ _ h => h) (Or.inl ⟨by rfl, ?_⟩) (by assumption) ?_
                  rotate_left
                  · (intro w hSw; obtain ⟨⟨h1, h2, h3⟩, h4⟩ := hSw; go_simp; try (with_reducible rfl))
                  simp only [Act.put, List.setIfInBounds_toArray, List.set_cons_zero, List.set_cons_succ]
                  refine wpAnyH_take (i := 7) (v := ?_) (List.getElem?_toArray.trans rfl) (by kernel_rfl) (by kernel_rfl) (by kernel_rfl) (fun _ _ _ h => h) (Or.inl ⟨by rfl, ?_⟩) (by assumption) ?_
                  rotate_left
                  · (intro w hSw; obtain ⟨⟨h1, h2, h3⟩, h4⟩ := hSw; go_simp; try (with_reducible rfl))
                  simp only [Act.put, List.setIfInBounds_toArray, List.set_cons_zero, List.set_cons_succ]
                  refine wpAnyH_take (i := 8) (v := ?_) (List.getElem?_toArray.trans rfl) (by kernel_rfl) (by kernel_rfl) (by kernel_rfl) (fun _ _ _ h => h) (Or.inl ⟨by rfl, ?_⟩) (by assumption) ?_
                  rotate_left
                  · (intro w hSw; obtain ⟨⟨h1, h2, h3⟩, h4⟩ := hSw; go_simp; try (with_reducible rfl))
                  simp only [Act.put, List.setIfInBounds_toArray, List.set_cons_zero, List.set_cons_succ]
                  refine wpAnyH_take (i := 9) (v := ?_) (List.getElem?_toArray.trans rfl) (by kernel_rfl) (by kernel_rfl) (by kernel_rfl) (fun _ _ _ h => h) (Or.inl ⟨by rfl, ?_⟩) (by assumption) ?_
                  rotate_left
                  · (intro w hSw; obtain ⟨⟨h1, h2, h3⟩, h4⟩ := hSw; go_simp; try (with_reducible rfl))
                  simp only [Act.put, List.setIfInBounds_toArray, List.set_cons_zero, List.set_cons_succ]
                  refine wpAnyH_take (i := 10) (v := ?_) (List.getElem?_toArray.trans rfl) (by kernel_rfl) (by kernel_rfl) (by kernel_rfl) (fun _ _ _ h => h) (Or.inl ⟨by rfl, ?_⟩) (by assumption) ?_
                  rotate_left
                  · (intro w hSw; obtain ⟨⟨h1, h2, h3⟩, h4⟩ := hSw; go_simp; try (with_reducible rfl))
                  simp only [Act.put, List.setIfInBounds_toArray, List.set_cons_zero, List.set_cons_succ]
                  refine wpAnyH_take (i := 11) (v := ?_) (List.getElem?_toArray.trans rfl) (by kernel_rfl) (by kernel_rfl) (by kernel_rfl) (fun _ _ _ h => h) (Or.inl ⟨by rfl, ?_⟩) (by assumption) ?_
                  rotate_left
                  · (intro w hSw; obtain ⟨⟨h1, h2, h3⟩, h4⟩ := hSw; go_simp; try (with_reducible rfl))
                  simp only [Act.put, List.setIfInBounds_toArray, List.set_cons_zero, List.set_cons_succ]
                  refine wpAnyH_take (i := 12) (v := ?_) (List.getElem?_toArray.trans rfl) (by kernel_rfl) (by kernel_rfl) (by kernel_rfl) (fun _ _ _ h => h) (Or.inl ⟨by rfl, ?_⟩) (by assumption) ?_
                  rotate_left
                  · (intro w hSw; obtain ⟨⟨h1, h2, h3⟩, h4⟩ := hSw; go_simp; try (with_reducible rfl))
                  simp only [Act.put, List.setIfInBounds_toArray, List.set_cons_zero, List.set_cons_succ]
                  refine wpAnyH_take (i := 13) (v := ?_) (List.getElem?_toArray.trans rfl) (by kernel_rfl) (by kernel_rfl) (by kernel_rfl) (fun _ _ _ h => h) (Or.inl ⟨by rfl, ?_⟩) (by assumption) ?_
                  rotate_left
                  · (intro w hSw; obtain ⟨⟨h1, h2, h3⟩, h4⟩ := hSw; go_simp; try (with_reducible rfl))
                  simp only [Act.put, List.setIfInBounds_toArray, List.set_cons_zero, List.set_cons_succ]
                  refine wpAnyH_take (i := 14) (v := ?_) (List.getElem?_toArray.trans rfl) (by kernel_rfl) (by kernel_rfl) (by kernel_rfl) (fun _ _ _ h => h) (Or.inl ⟨by rfl, ?_⟩) (by assumption) ?_
                  rotate_left
                  · (intro w hSw; obtain ⟨⟨h1, h2, h3⟩, h4⟩ := hSw; go_simp; try (with_reducible rfl))
                  simp only [Act.put, List.setIfInBounds_toArray, List.set_cons_zero, List.set_cons_succ]
                  refine wpAnyH_take (i := 15) (v := ?_) (List.getElem?_toArray.trans rfl) (by kernel_rfl) (by kernel_rfl) (by kernel_rfl) (fun _ _ _ h => h) (Or.inl ⟨by rfl, ?_⟩) (by assumption) ?_
                  rotate_left
                  · (intro w hSw; obtain ⟨⟨h1, h2, h3⟩, h4⟩ := hSw; go_simp; try (with_reducible rfl))
                  simp only [Act.put, List.setIfInBounds_toArray, List.set_cons_zero, List.set_cons_succ]
                  refine wpAnyH_take (i := 16) (v := ?_) (List.getElem?_toArray.trans rfl) (by kernel_rfl) (by kernel_rfl) (by kernel_rfl) (fun _ _ _ h => h) (Or.inl ⟨by rfl, ?_⟩) (by assumption) ?_
                  rotate_left
                  · (intro w hSw; obtain ⟨⟨h1, h2, h3⟩, h4⟩ := hSw; go_simp; try (with_reducible rfl))
                  simp only [Act.put, List.setIfInBounds_toArray, List.set_cons_zero, List.set_cons_succ]
                  refine wpAnyH_take (i := 17) (v := ?_) (List.getElem?_toArray.trans rfl) (by kernel_rfl) (by kernel_rfl) (by kernel_rfl) (fun _ _ _ h => h) (Or.inl ⟨by rfl, ?_⟩) (by assumption) ?_
                  rotate_left
                  · (intro w hSw; obtain ⟨⟨h1, h2, h3⟩, h4⟩ := hSw; go_simp; try (with_reducible rfl))
                  simp only [Act.put, List.setIfInBounds_toArray, List.set_cons_zero, List.set_cons_succ]
                  refine wpAnyH_take (i := 20) (v := ?_) (List.getElem?_toArray.trans rfl) (by kernel_rfl) (by kernel_rfl) (by kernel_rfl) (fun _ _ _ h => h) (Or.inl ⟨by rfl, ?_⟩) (by assumption) ?_
                  rotate_left
                  · (intro w hSw; obtain ⟨⟨h1, h2, h3⟩, h4⟩ := hSw; go_simp; try (with_reducible rfl))
                  simp only [Act.put, List.setIfInBounds_toArray, List.set_cons_zero, List.set_cons_succ]
                  refine wpAnyH_take (i := 21) (v := ?_) (List.getElem?_toArray.trans rfl) (by kernel_rfl) (by kernel_rfl) (by kernel_rfl) (fun _ _ _ h => h) (Or.inl ⟨by rfl, ?_⟩) (by assumption) ?_
                  rotate_left
                  · (intro w hSw; obtain ⟨⟨h1, h2, h3⟩, h4⟩ := hSw; have t4 := h4.text (P := Try.prog) Try.underlying27 Try.underlying5 Try.underlying9; go_simp; try (with_reducible rfl))
                  simp only [Act.put, List.setIfInBounds_toArray, List.set_cons_zero, List.set_cons_succ]
                  refine wpAnyH_ready (rs := [18]) (by kernel_rfl) (by simp) ?_
                  refine AllReadyH.cons (List.getElem?_toArray.trans rfl) (fun K3 hK3 => ?_) AllReadyH.nil
                  go_simp
                  refine ((s5.below d1).image HRS.out.1 HRS.out.2.1).mono ?_
                  rintro e v2 ⟨gj, cj, rfl, oJ, d2⟩
                  have m2 := m1.below d2
                  dsimp only
                  refine hK3.out _ _ ⟨⟨m2.c0, m2.c1, m2.c2⟩, (i5.below d1).below d2⟩ (fun hHeld3 => ?_)
                  clear hK3 K3
                  refine wpAnyH_ready (rs := [19]) (by kernel_rfl) (by simp) ?_
                  refine AllReadyH.cons (List.getElem?_toArray.trans rfl) (fun K3 hK3 => ?_) AllReadyH.nil
                  have t2 := oJ.sl.text (P := Try.prog) Try.underlying27 Try.underlying5 Try.underlying9
                  go_simp
                  refine hK3.out _ _ ⟨⟨m2.c0, m2.c1, m2.c2⟩, (i5.below d1).below d2⟩ (fun hHeld3 => ?_)
                  clear hK3 K3
                  refine wpAnyH_take (i := 22) (v := ?_) (List.getElem?_toArray.trans rfl) (by kernel_rfl) (by kernel_rfl) (by kernel_rfl) (fun _ _ _ h => h) (Or.inl ⟨by rfl, ?_⟩) (by assumption) ?_
                  rotate_left
                  · (intro w hSw; obtain ⟨⟨h1, h2, h3⟩, h4⟩ := hSw; go_simp; try (with_reducible rfl))
                  simp only [Act.put, List.setIfInBounds_toArray, List.set_cons_zero, List.set_cons_succ]
                  refine wpAnyH_take (i := 23) (v := ?_) (List.getElem?_toArray.trans rfl) (by kernel_rfl) (by kernel_rfl) (by kernel_rfl) (fun _ _ _ h => h) (Or.inl ⟨by rfl, ?_⟩) (by assumption) ?_
                  rotate_left
                  · (intro w hSw; obtain ⟨⟨h1, h2, h3⟩, h4⟩ := hSw; go_simp; try (with_reducible rfl))
                  simp only [Act.put, List.setIfInBounds_toArray, List.set_cons_zero, List.set_cons_succ]
                  refine wpAnyH_take (i := 24) (v := ?_) (List.getElem?_toArray.trans rfl) (by kernel_rfl) (by kernel_rfl) (by kernel_rfl) (fun _ _ _ h => h) (Or.inl ⟨by rfl, ?_⟩) (by assumption) ?_
                  rotate_left
                  · (intro w hSw; obtain ⟨⟨h1, h2, h3⟩, h4⟩ := hSw; go_simp; try (with_reducible rfl))
                  simp only [Act.put, List.setIfInBounds_toArray, List.set_cons_zero, List.set_cons_succ]
                  refine wpAnyH_take (i := 25) (v := ?_) (List.getElem?_toArray.trans rfl) (by kernel_rfl) (by kernel_rfl) (by kernel_rfl) (fun _ _ _ h => h) (Or.inl ⟨by rfl, ?_⟩) (by assumption) ?_
                  rotate_left
                  · (intro w hSw; obtain ⟨⟨h1, h2, h3⟩, h4⟩ := hSw; go_simp; try (with_reducible rfl))
                  simp only [Act.put, List.setIfInBounds_toArray, List.set_cons_zero, List.set_cons_succ]
                  refine wpAnyH_take (i := 26) (v := ?_) (List.getElem?_toArray.trans rfl) (by kernel_rfl) (by kernel_rfl) (by kernel_rfl) (fun _ _ _ h => h) (Or.inl ⟨by rfl, ?_⟩) (by assumption) ?_
                  rotate_left
                  · (intro w hSw; obtain ⟨⟨h1, h2, h3⟩, h4⟩ := hSw; go_simp; try (with_reducible rfl))
                  simp only [Act.put, List.setIfInBounds_toArray, List.set_cons_zero, List.set_cons_succ]
                  refine wpAnyH_take (i := 27) (v := undef) (List.getElem?_toArray.trans rfl) (by kernel_rfl) (by kernel_rfl) (by kernel_rfl) (fun _ _ _ h => h) (Or.inr ⟨by rfl, rfl⟩) (by assumption) ?_
                  simp only [Act.put, List.setIfInBounds_toArray, List.set_cons_zero, List.set_cons_succ]
                  refine wpAnyH_take (i := 28) (v := undef) (List.getElem?_toArray.trans rfl) (by kernel_rfl) (by kernel_rfl) (by kernel_rfl) (fun _ _ _ h => h) (Or.inr ⟨by rfl, rfl⟩) (by assumption) ?_
                  simp only [Act.put, List.setIfInBounds_toArray, List.set_cons_zero, List.set_cons_succ]
                  refine wpAnyH_take (i := 29) (v := undef) (List.getElem?_toArray.trans rfl) (by kernel_rfl) (by kernel_rfl) (by kernel_rfl) (fun _ _ _ h => h) (Or.inr ⟨by rfl, rfl⟩) (by assumption) ?_
                  simp only [Act.put, List.setIfInBounds_toArray, List.set_cons_zero, List.set_cons_succ]
                  refine wpAnyH_take (i := 30) (v := undef) (List.getElem?_toArray.trans rfl) (by kernel_rfl) (by kernel_rfl) (by kernel_rfl) (fun _ _ _ h => h) (Or.inr ⟨by rfl, rfl⟩) (by assumption) ?_
                  simp only [Act.put, List.setIfInBounds_toArray, List.set_cons_zero, List.set_cons_succ]
                  refine wpAnyH_take (i := 31) (v := undef) (List.getElem?_toArray.trans rfl) (by kernel_rfl) (by kernel_rfl) (by kernel_rfl) (fun _ _ _ h => h) (Or.inr ⟨by rfl, rfl⟩) (by assumption) ?_
                  simp only [Act.put, List.setIfInBounds_toArray, List.set_cons_zero, List.set_cons_succ]
                  refine wpAnyH_take (i := 32) (v := undef) (List.getElem?_toArray.trans rfl) (by kernel_rfl) (by kernel_rfl) (by kernel_rfl) (fun _ _ _ h => h) (Or.inr ⟨by rfl, rfl⟩) (by assumption) ?_
                  simp only [Act.put, List.setIfInBounds_toArray, List.set_cons_zero, List.set_cons_succ]
                  refine wpAnyH_take (i := 33) (v := undef) (List.getElem?_toArray.trans rfl) (by kernel_rfl) (by kernel_rfl) (by kernel_rfl) (fun _ _ _ h => h) (Or.inr ⟨by rfl, rfl⟩) (by assumption) ?_
                  simp only [Act.put, List.setIfInBounds_toArray, List.set_cons_zero, List.set_cons_succ]
                  refine wpAnyH_take (i := 34) (v := undef) (List.getElem?_toArray.trans rfl) (by kernel_rfl) (by kernel_rfl) (by kernel_rfl) (fun _ _ _ h => h) (Or.inr ⟨by rfl, rfl⟩) (by assumption) ?_
                  simp only [Act.put, List.setIfInBounds_toArray, List.set_cons_zero, List.set_cons_succ]
                  refine wpAnyH_take (i := 35) (v := undef) (List.getElem?_toArray.trans rfl) (by kernel_rfl) (by kernel_rfl) (by kernel_rfl) (fun _ _ _ h => h) (Or.inr ⟨by rfl, rfl⟩) (by assumption) ?_
                  simp only [Act.put, List.setIfInBounds_toArray, List.set_cons_zero, List.set_cons_succ]
                  refine wpAnyH_take (i := 36) (v := ?_) (List.getElem?_toArray.trans rfl) (by kernel_rfl) (by kernel_rfl) (by kernel_rfl) (fun _ _ _ h => h) (Or.inl ⟨by rfl, ?_⟩) (by assumption) ?_
                  rotate_left
                  · (intro w hSw; obtain ⟨⟨h1, h2, h3⟩, h4⟩ := hSw; go_simp; try (with_reducible rfl))
                  simp only [Act.put, List.setIfInBounds_toArray, List.set_cons_zero, List.set_cons_succ]
                  refine wpAnyH_take (i := 37) (v := ?_) (List.getElem?_toArray.trans rfl) (by kernel_rfl) (by kernel_rfl) (by kernel_rfl) (fun _ _ _ h => h) (Or.inl ⟨by rfl, ?_⟩) (by assumption) ?_
                  rotate_left
                  · (intro w hSw; obtain ⟨⟨h1, h2, h3⟩, h4⟩ := hSw; go_simp; try (with_reducible rfl))
                  simp only [Act.put, List.setIfInBounds_toArray, List.set_cons_zero, List.set_cons_succ]
                  refine wpAnyH_take (i := 38) (v := ?_) (List.getElem?_toArray.trans rfl) (by kernel_rfl) (by kernel_rfl) (by kernel_rfl) (fun _ _ _ h => h) (Or.inl ⟨by rfl, ?_⟩) (by assumption) ?_
                  rotate_left
                  · (intro w hSw; obtain ⟨⟨h1, h2, h3⟩, h4⟩ := hSw; go_simp; try (with_reducible rfl))
                  simp only [Act.put, List.setIfInBounds_toArray, List.set_cons_zero, List.set_cons_succ]
                  refine wpAnyH_done (by kernel_rfl) ?_ _
                  go_wp2
                  go_ret
                  exact ⟨by simp, next HA2.out.2 ((s5.below d1).below d2).bel⟩
                · have HZX := hid hZX
                  clear hZX
                  go_wp2_with (first
                    | (go_at_call 31; with_reducible refine cR.mono ?_; rintro e y1 ⟨rfl, F1, s1, g1⟩; have cI := s1.image HRS.out.1 HRS.out.2.1; have HS1 := hid (And.intro s1 (HR.out.2.1.goes g1)); clear cR s1 g1 p0 p1 p2)
                    | (go_at_call 26; with_reducible refine cI.mono ?_; rintro e y2 ⟨gi, ci, rfl, oI, b2⟩; have s2 := HS1.out.1.below b2; have l2 := (HA2.out.1.below s2.bel).lg; obtain ⟨q0, q1, q2⟩ := And.intro l2.c0 (And.intro l2.c1 l2.c2); have cR2 := s2.recover mk F R hg; rw [HRR.out.1, HRR.out.2.1, HRR.out.2.2] at cR2; have HS2 := hid (And.intro (has_of HS1.out.1 oI) (HS1.out.2.below b2)); clear s2 l2 oI b2 cI)
                    | (go_at_call 31; with_reducible refine cR2.mono ?_; rintro e y3 ⟨rfl, F3, s3, g3⟩; have i3 := HS2.out.1.goes g3; have l3 := (HA2.out.1.below s3.bel).lg; obtain ⟨u0, u1, u2⟩ := And.intro l3.c0 (And.intro l3.c1 l3.c2); have cO := others_of mk F R (some ⟨gi, 0, none⟩) n N ci x' y3 hg i3.sl hn8 HZ.out.2.2.1 X HRS.out.2.2.1; have HS3 := hid (And.intro s3 (And.intro i3 (HS2.out.2.goes g3))); clear i3 l3 s3 g3 cR2 q0 q1 q2)
                    | (go_at_call 29; with_reducible refine cO.mono ?_; rintro e y4 ⟨rfl, b4⟩; have s4 := HS3.out.1.below b4; have l4 := (HA2.out.1.below s4.bel).lg; obtain ⟨v0, v1, v2⟩ := And.intro l4.c0 (And.intro l4.c1 l4.c2); have a4 := HS3.out.2.2.below b4; have cO2 := others_of mk F R (some ⟨ga, 0, none⟩) n N n _ y4 hg a4.sl hn8 HZ.out.2.2.1 Y HY.out; have HS4 := hid (And.intro s4 (HS3.out.2.1.below b4)); clear s4 l4 a4 b4 cO u0 u1 u2)
                    | (go_at_call 29; with_reducible refine cO2.mono ?_; rintro e y5 ⟨rfl, b5⟩; have HS5 := hid (And.intro (HS4.out.1.below b5) (HS4.out.2.below b5)); clear b5 cO2 v0 v1 v2))
                  have s5 := HS5.out.1.drew
                  have i5 := (HS5.out.2.below (w' := y5.drew) (below_drew (Below.refl _ _))).sl
                  have l5 := (HA2.out.1.below s5.bel).lg
                  refine wp_region_held_drew (S := fun w' => (w'.cell? ⟨w.heap.size, 0, none⟩ = some (.int .i64 (mk : Int)) ∧ w'.cell? ⟨w.heap.size, 1, none⟩ = some (.int .i64 F) ∧ w'.cell? ⟨w.heap.size, 2, none⟩ = some (.int .i64 R)) ∧ Sl .u8 w' (some ⟨gi, 0, none⟩) n ci x') (by kernel_rfl) ⟨⟨l5.c0, l5.c1, l5.c2⟩, i5⟩ (fun hH => ?_)
                  refine wpAnyH_take (i := 0) (v := ?_) (List.getElem?_toArray.trans rfl) (by kernel_rfl) (by kernel_rfl) (by kernel_rfl) (fun _ _ _ h => h) (Or.inl ⟨by rfl, ?_⟩) (by assumption) ?_
                  rotate_left
                  · (intro w hSw; obtain ⟨⟨h1, h2, h3⟩, h4⟩ := hSw; go_simp; try (with_reducible rfl))
                  simp only [Act.put, List.setIfInBounds_toArray, List.set_cons_zero, List.set_cons_succ]
                  refine wpAnyH_take (i := 1) (v := ?_) (List.getElem?_toArray.trans rfl) (by kernel_rfl) (by kernel_rfl) (by kernel_rfl) (fun _ _ _ h => h) (Or.inl ⟨by rfl, ?_⟩) (by assumption) ?_
                  rotate_left
                  · (intro w hSw; obtain ⟨⟨h1, h2, h3⟩, h4⟩ := hSw; go_simp; try (with_reducible rfl))
                  simp only [Act.put, List.setIfInBounds_toArray, List.set_cons_zero, List.set_cons_succ]
                  refine wpAnyH_take (i := 2) (v := ?_) (List.getElem?_toArray.trans rfl) (by kernel_rfl) (by kernel_rfl) (by kernel_rfl) (fun _ _ _ h => h) (Or.inl ⟨by rfl, ?_⟩) (by assumption) ?_
                  rotate_left
                  · (intro w hSw; obtain ⟨⟨h1, h2, h3⟩, h4⟩ := hSw; go_simp; try (with_reducible rfl))
                  simp only [Act.put, List.setIfInBounds_toArray, List.set_cons_zero, List.set_cons_succ]
                  refine wpAnyH_take (i := 3) (v := ?_) (List.getElem?_toArray.trans rfl) (by kernel_rfl) (by kernel_rfl) (by kernel_rfl) (fun _ _ _ h => h) (Or.inl ⟨by rfl, ?_⟩) (by assumption) ?_
                  rotate_left
                  · (intro w hSw; obtain ⟨⟨h1, h2, h3⟩, h4⟩ := hSw; go_simp; try (with_reducible rfl))
                  simp only [Act.put, List.setIfInBounds_toArray, List.set_cons_zero, List.set_cons_succ]
                  refine wpAnyH_ready (rs := [4]) (by kernel_rfl) (by simp) ?_
                  refine AllReadyH.cons (List.getElem?_toArray.trans rfl) (fun K3 hK3 => ?_) AllReadyH.nil
                  go_simp
                  refine (s5.dirty HRS.out.1).mono ?_
                  rintro e v1 ⟨di, dc, rfl, d1⟩
                  have m1 := l5.below d1
                  dsimp only
                  refine hK3.out _ _ ⟨⟨m1.c0, m1.c1, m1.c2⟩, i5.below d1⟩ (fun hHeld3 => ?_)
                  clear hK3 K3
                  refine wpAnyH_take (i := 5) (v := ?_) (List.getElem?_toArray.trans rfl) (by kernel_rfl) (by kernel_rfl) (by kernel_rfl) (fun _ _ _ h => h) (Or.inl ⟨by rfl, ?_⟩) (by assumption) ?_
                  rotate_left
                  · (intro w hSw; obtain ⟨⟨h1, h2, h3⟩, h4⟩ := hSw; go_simp; try (with_reducible rfl))
                  simp only [Act.put, List.setIfInBounds_toArray, List.set_cons_zero, List.set_cons_succ]
                  refine wpAnyH_take (i := 6) (v := ?_) (List.getElem?_toArray.trans rfl) (by kernel_rfl) (by kernel_rfl) (by kernel_rfl) (fun _ _ _ h => h) (Or.inl ⟨by rfl, ?_⟩) (by assumption) ?_
                  rotate_left
                  · (intro w hSw; obtain ⟨⟨h1, h2, h3⟩, h4⟩ := hSw; go_simp; try (with_reducible rfl))
                  simp only [Act.put, List.setIfInBounds_toArray, List.set_cons_zero, List.set_cons_succ]
                  refine wpAnyH_take (i := 7) (v := ?_) (List.getElem?_toArray.trans rfl) (by kernel_rfl) (by kernel_rfl) (by kernel_rfl) (fun _ _ _ h => h) (Or.inl ⟨by rfl, ?_⟩) (by assumption) ?_
                  rotate_left
                  · (intro w hSw; obtain ⟨⟨h1, h2, h3⟩, h4⟩ := hSw; go_simp; try (with_reducible rfl))
                  simp only [Act.put, List.setIfInBounds_toArray, List.set_cons_zero, List.set_cons_succ]
                  refine wpAnyH_take (i := 8) (v := ?_) (List.getElem?_toArray.trans rfl) (by kernel_rfl) (by kernel_rfl) (by kernel_rfl) (fun _ _ _ h => h) (Or.inl ⟨by rfl, ?_⟩) (by assumption) ?_
                  rotate_left
                  · (intro w hSw; obtain ⟨⟨h1, h2, h3⟩, h4⟩ := hSw; go_simp; try (with_reducible rfl))
                  simp only [Act.put, List.setIfInBounds_toArray, List.set_cons_zero, List.set_cons_succ]
                  refine wpAnyH_take (i := 9) (v := ?_) (List.getElem?_toArray.trans rfl) (by kernel_rfl) (by kernel_rfl) (by kernel_rfl) (fun _ _ _ h => h) (Or.inl ⟨by rfl, ?_⟩) (by assumption) ?_
                  rotate_left
                  · (intro w hSw; obtain ⟨⟨h1, h2, h3⟩, h4⟩ := hSw; go_simp; try (with_reducible rfl))
                  simp only [Act.put, List.setIfInBounds_toArray, List.set_cons_zero, List.set_cons_succ]
                  refine wpAnyH_take (i := 10) (v := ?_) (List.getElem?_toArray.trans rfl) (by kernel_rfl) (by kernel_rfl) (by kernel_rfl) (fun _ _ _ h => h) (Or.inl ⟨by rfl, ?_⟩) (by assumption) ?_
                  rotate_left
                  · (intro w hSw; obtain ⟨⟨h1, h2, h3⟩, h4⟩ := hSw; go_simp; try (with_reducible rfl))
                  simp only [Act.put, List.setIfInBounds_toArray, List.set_cons_zero, List.set_cons_succ]
                  refine wpAnyH_take (i := 11) (v := ?_) (List.getElem?_toArray.trans rfl) (by kernel_rfl) (by kernel_rfl) (by kernel_rfl) (fun _ _ _ h => h) (Or.inl ⟨by rfl, ?_⟩) (by assumption) ?_
                  rotate_left
                  · (intro w hSw; obtain ⟨⟨h1, h2, h3⟩, h4⟩ := hSw; go_simp; try (with_reducible rfl))
                  simp only [Act.put, List.setIfInBounds_toArray, List.set_cons_zero, List.set_cons_succ]
                  refine wpAnyH_take (i := 12) (v := ?_) (List.getElem?_toArray.trans rfl) (by kernel_rfl) (by kernel_rfl) (by kernel_rfl) (fun _ _ _ h => h) (Or.inl ⟨by rfl, ?_⟩) (by assumption) ?_
                  rotate_left
                  · (intro w hSw; obtain ⟨⟨h1, h2, h3⟩, h4⟩ := hSw; go_simp; try (with_reducible rfl))
                  simp only [Act.put, List.setIfInBounds_toArray, List.set_cons_zero, List.set_cons_succ]
                  refine wpAnyH_take (i := 13) (v := ?_) (List.getElem?_toArray.trans rfl) (by kernel_rfl) (by kernel_rfl) (by kernel_rfl) (fun _ _ _ h => h) (Or.inl ⟨by rfl, ?_⟩) (by assumption) ?_
                  rotate_left
                  · (intro w hSw; obtain ⟨⟨h1, h2, h3⟩, h4⟩ := hSw; go_simp; try (with_reducible rfl))
                  simp only [Act.put, List.setIfInBounds_toArray, List.set_cons_zero, List.set_cons_succ]
                  refine wpAnyH_take (i := 14) (v := ?_) (List.getElem?_toArray.trans rfl) (by kernel_rfl) (by kernel_rfl) (by kernel_rfl) (fun _ _ _ h => h) (Or.inl ⟨by rfl, ?_⟩) (by assumption) ?_
                  rotate_left
                  · (intro w hSw; obtain ⟨⟨h1, h2, h3⟩, h4⟩ := hSw; go_simp; try (with_reducible rfl))
                  simp only [Act.put, List.setIfInBounds_toArray, List.set_cons_zero, List.set_cons_succ]
                  refine wpAnyH_take (i := 15) (v := ?_) (List.getElem?_toArray.trans rfl) (by kernel_rfl) (by kernel_rfl) (by kernel_rfl) (fun _ _ _ h => h) (Or.inl ⟨by rfl, ?_⟩) (by assumption) ?_
                  rotate_left
                  · (intro w hSw; obtain ⟨⟨h1, h2, h3⟩, h4⟩ := hSw; go_simp; try (with_reducible rfl))
                  simp only [Act.put, List.setIfInBounds_toArray, List.set_cons_zero, List.set_cons_succ]
                  refine wpAnyH_take (i := 16) (v := ?_) (List.getElem?_toArray.trans rfl) (by kernel_rfl) (by kernel_rfl) (by kernel_rfl) (fun _ _ _ h => h) (Or.inl ⟨by rfl, ?_⟩) (by assumption) ?_
                  rotate_left
                  · (intro w hSw; obtain ⟨⟨h1, h2, h3⟩, h4⟩ := hSw; go_simp; try (with_reducible rfl))
                  simp only [Act.put, List.setIfInBounds_toArray, List.set_cons_zero, List.set_cons_succ]
                  refine wpAnyH_take (i := 17) (v := ?_) (List.getElem?_toArray.trans rfl) (by kernel_rfl) (by kernel_rfl) (by kernel_rfl) (fun _ _ _ h => h) (Or.inl ⟨by rfl, ?_⟩) (by assumption) ?_
                  rotate_left
                  · (intro w hSw; obtain ⟨⟨h1, h2, h3⟩, h4⟩ := hSw; go_simp; try (with_reducible rfl))
                  simp only [Act.put, List.setIfInBounds_toArray, List.set_cons_zero, List.set_cons_succ]
                  refine wpAnyH_take (i := 20) (v := ?_) (List.getElem?_toArray.trans rfl) (by kernel_rfl) (by kernel_rfl) (by kernel_rfl) (fun _ _ _ h => h) (Or.inl ⟨by rfl, ?_⟩) (by assumption) ?_
                  rotate_left
                  · (intro w hSw; obtain ⟨⟨h1, h2, h3⟩, h4⟩ := hSw; go_simp; try (with_reducible rfl))
                  simp only [Act.put, List.setIfInBounds_toArray, List.set_cons_zero, List.set_cons_succ]
                  refine wpAnyH_take (i := 21) (v := ?_) (List.getElem?_toArray.trans rfl) (by kernel_rfl) (by kernel_rfl) (by kernel_rfl) (fun _ _ _ h => h) (Or.inl ⟨by rfl, ?_⟩) (by assumption) ?_
                  rotate_left
                  · (intro w hSw; obtain ⟨⟨h1, h2, h3⟩, h4⟩ := hSw; have t4 := h4.text (P := Try.prog) Try.underlying27 Try.underlying5 Try.underlying9; go_simp; try (with_reducible rfl))
                  simp only [Act.put, List.setIfInBounds_toArray, List.set_cons_zero, List.set_cons_succ]
                  refine wpAnyH_ready (rs := [18]) (by kernel_rfl) (by simp) ?_
                  refine AllReadyH.cons (List.getElem?_toArray.trans rfl) (fun K3 hK3 => ?_) AllReadyH.nil
                  go_simp
                  refine ((s5.below d1).image HRS.out.1 HRS.out.2.1).mono ?_
                  rintro e v2 ⟨gj, cj, rfl, oJ, d2⟩
                  have m2 := m1.below d2
                  dsimp only
                  refine hK3.out _ _ ⟨⟨m2.c0, m2.c1, m2.c2⟩, (i5.below d1).below d2⟩ (fun hHeld3 => ?_)
                  clear hK3 K3
                  refine wpAnyH_ready (rs := [19]) (by kernel_rfl) (by simp) ?_
                  refine AllReadyH.cons (List.getElem?_toArray.trans rfl) (fun K3 hK3 => ?_) AllReadyH.nil
                  have t2 := oJ.sl.text (P := Try.prog) Try.underlying27 Try.underlying5 Try.underlying9
                  go_simp
                  refine hK3.out _ _ ⟨⟨m2.c0, m2.c1, m2.c2⟩, (i5.below d1).below d2⟩ (fun hHeld3 => ?_)
                  clear hK3 K3
                  refine wpAnyH_take (i := 22) (v := ?_) (List.getElem?_toArray.trans rfl) (by kernel_rfl) (by kernel_rfl) (by kernel_rfl) (fun _ _ _ h => h) (Or.inl ⟨by rfl, ?_⟩) (by assumption) ?_
                  rotate_left
                  · (intro w hSw; obtain ⟨⟨h1, h2, h3⟩, h4⟩ := hSw; go_simp; try (with_reducible rfl))
                  simp only [Act.put, List.setIfInBounds_toArray, List.set_cons_zero, List.set_cons_succ]
                  refine wpAnyH_take (i := 23) (v := ?_) (List.getElem?_toArray.trans rfl) (by kernel_rfl) (by kernel_rfl) (by kernel_rfl) (fun _ _ _ h => h) (Or.inl ⟨by rfl, ?_⟩) (by assumption) ?_
                  rotate_left
                  · (intro w hSw; obtain ⟨⟨h1, h2, h3⟩, h4⟩ := hSw; go_simp; try (with_reducible rfl))
                  simp only [Act.put, List.setIfInBounds_toArray, List.set_cons_zero, List.set_cons_succ]
                  refine wpAnyH_take (i := 24) (v := ?_) (List.getElem?_toArray.trans rfl) (by kernel_rfl) (by kernel_rfl) (by kernel_rfl) (fun _ _ _ h => h) (Or.inl ⟨by rfl, ?_⟩) (by assumption) ?_
                  rotate_left
                  · (intro w hSw; obtain ⟨⟨h1, h2, h3⟩, h4⟩ := hSw; go_simp; try (with_reducible rfl))
                  simp only [Act.put, List.setIfInBounds_toArray, List.set_cons_zero, List.set_cons_succ]
                  refine wpAnyH_take (i := 25) (v := ?_) (List.getElem?_toArray.trans rfl) (by kernel_rfl) (by kernel_rfl) (by kernel_rfl) (fun _ _ _ h => h) (Or.inl ⟨by rfl, ?_⟩) (by assumption) ?_
                  rotate_left
                  · (intro w hSw; obtain ⟨⟨h1, h2, h3⟩, h4⟩ := hSw; go_simp; try (with_reducible rfl))
                  simp only [Act.put, List.setIfInBounds_toArray, List.set_cons_zero, List.set_cons_succ]
                  refine wpAnyH_take (i := 26) (v := ?_) (List.getElem?_toArray.trans rfl) (by kernel_rfl) (by kernel_rfl) (by kernel_rfl) (fun _ _ _ h => h) (Or.inl ⟨by rfl, ?_⟩) (by assumption) ?_
                  rotate_left
                  · (intro w hSw; obtain ⟨⟨h1, h2, h3⟩, h4⟩ := hSw; go_simp; try (with_reducible rfl))
                  simp only [Act.put, List.setIfInBounds_toArray, List.set_cons_zero, List.set_cons_succ]
                  refine wpAnyH_take (i := 27) (v := ?_) (List.getElem?_toArray.trans rfl) (by kernel_rfl) (by kernel_rfl) (by kernel_rfl) (fun _ _ _ h => h) (Or.inl ⟨by rfl, ?_⟩) (by assumption) ?_
                  rotate_left
                  · (intro w hSw; obtain ⟨⟨h1, h2, h3⟩, h4⟩ := hSw; go_simp; try (with_reducible rfl))
                  simp only [Act.put, List.setIfInBounds_toArray, List.set_cons_zero, List.set_cons_succ]
                  refine wpAnyH_take (i := 28) (v := ?_) (List.getElem?_toArray.trans rfl) (by kernel_rfl) (by kernel_rfl) (by kernel_rfl) (fun _ _ _ h => h) (Or.inl ⟨by rfl, ?_⟩) (by assumption) ?_
                  rotate_left
                  · (intro w hSw; obtain ⟨⟨h1, h2, h3⟩, h4⟩ := hSw; go_simp; try (with_reducible rfl))
                  simp only [Act.put, List.setIfInBounds_toArray, List.set_cons_zero, List.set_cons_succ]
                  refine wpAnyH_take (i := 29) (v := ?_) (List.getElem?_toArray.trans rfl) (by kernel_rfl) (by kernel_rfl) (by kernel_rfl) (fun _ _ _ h => h) (Or.inl ⟨by rfl, ?_⟩) (by assumption) ?_
                  rotate_left
                  · (intro w hSw; obtain ⟨⟨h1, h2, h3⟩, h4⟩ := hSw; go_simp; try (with_reducible rfl))
                  simp only [Act.put, List.setIfInBounds_toArray, List.set_cons_zero, List.set_cons_succ]
                  refine wpAnyH_take (i := 30) (v := ?_) (List.getElem?_toArray.trans rfl) (by kernel_rfl) (by kernel_rfl) (by kernel_rfl) (fun _ _ _ h => h) (Or.inl ⟨by rfl, ?_⟩) (by assumption) ?_
                  rotate_left
                  · (intro w hSw; obtain ⟨⟨h1, h2, h3⟩, h4⟩ := hSw; go_simp; try (with_reducible rfl))
                  simp only [Act.put, List.setIfInBounds_toArray, List.set_cons_zero, List.set_cons_succ]
                  refine wpAnyH_take (i := 31) (v := ?_) (List.getElem?_toArray.trans rfl) (by kernel_rfl) (by kernel_rfl) (by kernel_rfl) (fun _ _ _ h => h) (Or.inl ⟨by rfl, ?_⟩) (by assumption) ?_
                  rotate_left
                  · (intro w hSw; obtain ⟨⟨h1, h2, h3⟩, h4⟩ := hSw; go_simp; try (with_reducible rfl))
                  simp only [Act.put, List.setIfInBounds_toArray, List.set_cons_zero, List.set_cons_succ]
                  refine wpAnyH_take (i := 32) (v := ?_) (List.getElem?_toArray.trans rfl) (by kernel_rfl) (by kernel_rfl) (by kernel_rfl) (fun _ _ _ h => h) (Or.inl ⟨by rfl, ?_⟩) (by assumption) ?_
                  rotate_left
                  · (intro w hSw; obtain ⟨⟨h1, h2, h3⟩, h4⟩ := hSw; go_simp; try (with_reducible rfl))
                  simp only [Act.put, List.setIfInBounds_toArray, List.set_cons_zero, List.set_cons_succ]
                  refine wpAnyH_ready (rs := [33]) (by kernel_rfl) (by simp) ?_
                  refine AllReadyH.cons (List.getElem?_toArray.trans rfl) (fun K3 hK3 => ?_) AllReadyH.nil
                  go_simp
                  refine (others_of mk F R a0 n N cap z v2 hg (HA2.out.1.below ((s5.below d1).below d2).bel).im hn8 HZ.out.2.2.1 X HZX.out).mono ?_
                  rintro e v3 ⟨rfl, d3⟩
                  have m3 := m2.below d3
                  dsimp only
                  refine hK3.out _ _ ⟨⟨m3.c0, m3.c1, m3.c2⟩, ((i5.below d1).below d2).below d3⟩ (fun hHeld3 => ?_)
                  clear hK3 K3
                  refine wpAnyH_take (i := 34) (v := ?_) (List.getElem?_toArray.trans rfl) (by kernel_rfl) (by kernel_rfl) (by kernel_rfl) (fun _ _ _ h => h) (Or.inl ⟨by rfl, ?_⟩) (by assumption) ?_
                  rotate_left
                  · (intro w hSw; obtain ⟨⟨h1, h2, h3⟩, h4⟩ := hSw; go_simp; try (with_reducible rfl))
                  simp only [Act.put, List.setIfInBounds_toArray, List.set_cons_zero, List.set_cons_succ]
                  refine wpAnyH_take (i := 35) (v := ?_) (List.getElem?_toArray.trans rfl) (by kernel_rfl) (by kernel_rfl) (by kernel_rfl) (fun _ _ _ h => h) (Or.inl ⟨by rfl, ?_⟩) (by assumption) ?_
                  rotate_left
                  · (intro w hSw; obtain ⟨⟨h1, h2, h3⟩, h4⟩ := hSw; go_simp; try (with_reducible rfl))
                  simp only [Act.put, List.setIfInBounds_toArray, List.set_cons_zero, List.set_cons_succ]
                  refine wpAnyH_take (i := 36) (v := ?_) (List.getElem?_toArray.trans rfl) (by kernel_rfl) (by kernel_rfl) (by kernel_rfl) (fun _ _ _ h => h) (Or.inl ⟨by rfl, ?_⟩) (by assumption) ?_
                  rotate_left
                  · (intro w hSw; obtain ⟨⟨h1, h2, h3⟩, h4⟩ := hSw; go_simp; try (with_reducible rfl))
                  simp only [Act.put, List.setIfInBounds_toArray, List.set_cons_zero, List.set_cons_succ]
                  refine wpAnyH_take (i := 37) (v := ?_) (List.getElem?_toArray.trans rfl) (by kernel_rfl) (by kernel_rfl) (by kernel_rfl) (fun _ _ _ h => h) (Or.inl ⟨by rfl, ?_⟩) (by assumption) ?_
                  rotate_left
                  · (intro w hSw; obtain ⟨⟨h1, h2, h3⟩, h4⟩ := hSw; go_simp; try (with_reducible rfl))
                  simp only [Act.put, List.setIfInBounds_toArray, List.set_cons_zero, List.set_cons_succ]
                  refine wpAnyH_take (i := 38) (v := ?_) (List.getElem?_toArray.trans rfl) (by kernel_rfl) (by kernel_rfl) (by kernel_rfl) (fun _ _ _ h => h) (Or.inl ⟨by rfl, ?_⟩) (by assumption) ?_
                  rotate_left
                  · (intro w hSw; obtain ⟨⟨h1, h2, h3⟩, h4⟩ := hSw; go_simp; try (with_reducible rfl))
                  simp only [Act.put, List.setIfInBounds_toArray, List.set_cons_zero, List.set_cons_succ]
                  refine wpAnyH_done (by kernel_rfl) ?_ _
                  go_wp2
                  go_ret
                  exact ⟨by simp, next HA2.out.2 (((s5.below d1).below d2).below d3).bel⟩
end Go.Proofs.Ytgiippbjieecmaa
