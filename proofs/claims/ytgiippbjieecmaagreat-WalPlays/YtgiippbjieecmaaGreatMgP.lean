/- RefEnds · RefCommit: these texts, one behind another. -/
import Derived.Test.YtgiippbjieecmaaGreatRefRun
import Derived.Test.YtgiippbjieecmaaGreatRefLog
import Derived.Test.YtgiippbjieecmaaGreatRefWR
import Derived.Test.YtgiippbjieecmaaGreatRefRight
import Derived.Test.YtgiippbjieecmaaGreatMgH
/- joistref05.ends by its contract. -/
namespace Go.Proofs.YtgiippbjieecmaaGreat
set_option maxRecDepth 100000
open Go.RowKit
set_option linter.unusedVariables false

theorem bring_put (c : Chg) : bringS c = putL c.1.toNat c.2 false := by unfold bringS putL; rw [if_neg (by simp)]
theorem keep_put (mk : Nat) (ys : List Int) : keepS mk ys = putL mk ys true := by unfold keepS putL; rw [if_pos rfl]
theorem brings_at (D : Nat → ChD) {k m : Nat} (h : k < m) : ∃ t, bringsL (saysN D m) = bringsL (saysN D k) ++ (putL (D k).line.toNat (D k).bz false ++ t) := by
  induction m with
  | zero => omega
  | succ m ih =>
    by_cases e : k = m
    · subst e
      exact ⟨[], by rw [saysN_succ, bringsL_snoc, bring_put, List.append_nil]; rfl⟩
    · obtain ⟨t, ht⟩ := ih (by omega)
      exact ⟨t ++ bringS (D m).says, by rw [saysN_succ, bringsL_snoc, ht]; simp⟩
theorem ends_stop {S : St} {D : Nat → ChD} {k m mk : Nat} (h0 : runE S (bringsL (saysN D k)) = 0) (hk : k < m) (hE : ¬ runE (runS S (bringsL (saysN D k))) (putL (D k).line.toNat (D k).bz false) = 0) :
    runE S (finS mk (saysN D m)) = runE (runS S (bringsL (saysN D k))) (putL (D k).line.toNat (D k).bz false) ∧ runS S (finS mk (saysN D m)) = runS (runS S (bringsL (saysN D k))) (putL (D k).line.toNat (D k).bz false) := by
  obtain ⟨t, ht⟩ := brings_at D hk
  have e : finS mk (saysN D m) = bringsL (saysN D k) ++ (putL (D k).line.toNat (D k).bz false ++ (t ++ ([.fe] ++ keepS mk (markL [])))) := by unfold finS; rw [ht]; simp
  rw [e, ((run_append _ _ _).1 h0).1, ((run_append _ _ _).1 h0).2]
  exact (run_append _ _ _).2 hE
theorem ends_next {S : St} {D : Nat → ChD} {k : Nat} (h0 : runE S (bringsL (saysN D k)) = 0) :
    runE S (bringsL (saysN D (k + 1))) = runE (runS S (bringsL (saysN D k))) (putL (D k).line.toNat (D k).bz false) ∧ runS S (bringsL (saysN D (k + 1))) = runS (runS S (bringsL (saysN D k))) (putL (D k).line.toNat (D k).bz false) := by
  rw [saysN_succ, bringsL_snoc, bring_put]
  exact (run_append _ _ _).1 h0
theorem ends_fence {S : St} {l : List Chg} {mk : Nat} (h0 : runE S (bringsL l) = 0) :
    (¬ stpE (runS S (bringsL l)) .fe = 0 → runE S (finS mk l) = stpE (runS S (bringsL l)) .fe ∧ runS S (finS mk l) = stpS (runS S (bringsL l)) .fe) ∧
    (stpE (runS S (bringsL l)) .fe = 0 → runE S (finS mk l) = runE (stpS (runS S (bringsL l)) .fe) (putL mk (markL []) true) ∧ runS S (finS mk l) = runS (stpS (runS S (bringsL l)) .fe) (putL mk (markL []) true)) := by
  have e : finS mk l = bringsL l ++ (.fe :: putL mk (markL []) true) := by unfold finS; rw [keep_put]; simp
  rw [e, ((run_append _ _ _).1 h0).1, ((run_append _ _ _).1 h0).2]
  exact ⟨fun h => run_bad h _, fun h => run_ok h _⟩
theorem Own.bound {k : IntKind} {e : TypeId} {B : Nat} {w : World} {ao : Option Addr} {n cap : Nat} {zs : List Int} (h : Own k e B w ao n cap zs) (c : Addr) (hc : ao = some c) : B ≤ c.block := by
  rcases h.row.2 with ⟨hv, _⟩ | ⟨g', cap', cur, hv, hg, hh, _⟩
  · simp [hc] at hv
  · simp only [hc, Value.slice.injEq, Option.some.injEq] at hv
    rw [hv.1]; exact hg
set_option maxHeartbeats 3200000 in
theorem ends_any {w : World} {G : Nat → Prop} {q : Nat} {S : St} (h : Shows w G q S) (mk : Nat) (hmk : mk ≤ 4096) (F R : Int) (lo : Option Addr) (m lc : Nat) (D : Nat → ChD) (hc : Chs w lo m D) (hr : ∀ i, i < m → 0 ≤ (D i).line ∧ (D i).line ≤ 4096) (hl : 0 < m → ∀ c, lo = some c → ¬ G c.block) (hno : ∀ i, i < m → 0 < (D i).bl → ∀ c, (D i).ba = some c → ¬ G c.block) :
    Calls Tryz.prog 37 #[.pointer (some ⟨q, 0, none⟩), .agg #[.int .i64 (mk : Int), .int .i64 F, .int .i64 R], .slice lo m lc] w fun e w' => e = .returned (.int .i64 (runE S (finS mk (saysN D m)))) ∧ Shows w' G q (runS S (finS mk (saysN D m))) ∧ Goes G w G w' := by
  have hm9 := hc.fit
  have hb := (Below.refl w.heap.size w).alloc (Nat.le_refl _) (.cells #[.int .i64 (mk : Int), .int .i64 F, .int .i64 R] 24)
  have hL := logAt_new w mk F R
  have hG := h.bound
  have s0 := h.below hb
  have HC := hid (And.intro hc (And.intro hr (And.intro hl (And.intro hno (And.intro hG (And.intro hb hL))))))
  have HS0 := hid s0
  clear hc hr hl hno hG hb hL s0 h
  go_enter Tryz.func37, Tryz.ntmps37
  go_wp2
  go_loopw [7] (fun t wx => ∃ k : Nat, k ≤ m ∧ t = .int .i64 k ∧ Hid (runE S (bringsL (saysN D k)) = 0 ∧ Shows wx G q (runS S (bringsL (saysN D k))) ∧ Goes G (w.alloc (.cells #[.int .i64 (mk : Int), .int .i64 F, .int .i64 R] 24)) G wx)) (fun t _ => m - (RowKit.intOf t).toNat)
  case atStart => exact ⟨0, Nat.zero_le _, rfl, hid ⟨rfl, HS0.out, Goes.refl _ _⟩⟩
  case round =>
    obtain ⟨k, hk, rfl, HK⟩ := hrel
    obtain ⟨T, hT⟩ : ∃ T, runS S (bringsL (saysN D k)) = T := ⟨_, rfl⟩
    have HT := hid hT
    have HGO : Hid (Goes G w G wr) := (Goes.of_below HC.out.2.2.2.2.2.1).trans HK.out.2.2
    by_cases hlt : k < m
    · have hki : (k : Int) < (m : Int) := by omega
      have hkN : (0 : Int) ≤ (k : Int) := by omega
      obtain ⟨b, off, rfl, hbl, hcE⟩ := HC.out.1.here (by omega)
      obtain ⟨c1, c2⟩ := hcE k hlt
      have hnb : ¬ G b := HC.out.2.2.1 (by omega) ⟨b, off, none⟩ rfl
      obtain ⟨r0, r1⟩ := HC.out.2.1 k hlt
      obtain ⟨ln, hln⟩ : ∃ ln : Nat, (D k).line = ln := ⟨(D k).line.toNat, by omega⟩
      have hok := HC.out.1.ok k hlt
      have HCL : Hid (∀ w', Off G w w' → w'.cell? ⟨b, off + k * 2, none⟩ = some (.int .i64 (ln : Int)) ∧ w'.cell? ⟨b, off + k * 2 + 1, none⟩ = some (.slice (D k).ba (D k).bl (D k).bc)) := fun w' ho => by
        rw [World.cell?_of_block (a := ⟨b, off + k * 2, none⟩) (ho.block b hbl hnb), World.cell?_of_block (a := ⟨b, off + k * 2 + 1, none⟩) (ho.block b hbl hnb), ← hln]
        exact ⟨c1, c2⟩
      have hd : Goes G w G wr.drew := HGO.out.trans (Goes.of_below (below_drew (Below.refl _ _)))
      have s1 : Shows wr.drew G q T := by
        have := HK.out.2.1
        rw [hT] at this
        exact this.below (below_drew (Below.refl _ _))
      have cP := put_any s1 ln (by omega) (D k).ba (D k).bl (D k).bc (D k).bz (hok.bs.off hd.off (HC.out.2.2.2.1 k hlt)) hok.by_ (by have := hok.bm; have := hok.bs.room; omega) (HC.out.2.2.2.1 k hlt) false
      have hcell := HCL.out wr.drew hd.off
      have HN : Hid (runE S (bringsL (saysN D (k + 1))) = runE T (putL ln (D k).bz false) ∧ runS S (bringsL (saysN D (k + 1))) = runS T (putL ln (D k).bz false)) := by
        have := ends_next HK.out.1
        rw [hT, hln, Int.toNat_natCast] at this
        exact this
      have HST : Hid (¬ runE T (putL ln (D k).bz false) = 0 → runE S (finS mk (saysN D m)) = runE T (putL ln (D k).bz false) ∧ runS S (finS mk (saysN D m)) = runS T (putL ln (D k).bz false)) := fun hE => by
        have := ends_stop (mk := mk) HK.out.1 hlt (by rw [hT, hln, Int.toNat_natCast]; exact hE)
        rw [hT, hln, Int.toNat_natCast] at this
        exact this
      have HD := hid hd
      obtain ⟨X, hX⟩ : ∃ X, runE T (putL ln (D k).bz false) = X := ⟨_, rfl⟩
      rw [hX] at cP
      have HX := hid hX
      clear hcE c1 c2 r0 r1 hok s1 hd hT hX hln hbl hnb
      by_cases hX0 : X = 0
      · subst hX0
        go_wp2_with fail
        refine wp_region_held_drew (S := fun w' => w'.cell? ⟨b, off + k * 2, none⟩ = some (.int .i64 (ln : Int)) ∧ w'.cell? ⟨b, off + k * 2 + 1, none⟩ = some (.slice (D k).ba (D k).bl (D k).bc)) (by kernel_rfl) hcell (fun hH => ?_)
        refine wpAnyH_take (i := 0) (v := ?_) (List.getElem?_toArray.trans rfl) (by kernel_rfl) (by kernel_rfl) (by kernel_rfl) (fun _ _ _ h => h) (Or.inl ⟨by rfl, ?_⟩) (by assumption) ?_
        rotate_left
        · (intro w hSw; obtain ⟨h1, h2⟩ := hSw; go_simp; try (with_reducible rfl))
        simp only [Act.put, List.setIfInBounds_toArray, List.set_cons_zero, List.set_cons_succ]
        refine wpAnyH_take (i := 1) (v := ?_) (List.getElem?_toArray.trans rfl) (by kernel_rfl) (by kernel_rfl) (by kernel_rfl) (fun _ _ _ h => h) (Or.inl ⟨by rfl, ?_⟩) (by assumption) ?_
        rotate_left
        · (intro w hSw; obtain ⟨h1, h2⟩ := hSw; go_simp; try (with_reducible rfl))
        simp only [Act.put, List.setIfInBounds_toArray, List.set_cons_zero, List.set_cons_succ]
        refine wpAnyH_take (i := 2) (v := ?_) (List.getElem?_toArray.trans rfl) (by kernel_rfl) (by kernel_rfl) (by kernel_rfl) (fun _ _ _ h => h) (Or.inl ⟨by rfl, ?_⟩) (by assumption) ?_
        rotate_left
        · (intro w hSw; obtain ⟨h1, h2⟩ := hSw; go_simp; try (with_reducible rfl))
        simp only [Act.put, List.setIfInBounds_toArray, List.set_cons_zero, List.set_cons_succ]
        refine wpAnyH_take (i := 3) (v := ?_) (List.getElem?_toArray.trans rfl) (by kernel_rfl) (by kernel_rfl) (by kernel_rfl) (fun _ _ _ h => h) (Or.inl ⟨by rfl, ?_⟩) (by assumption) ?_
        rotate_left
        · (intro w hSw; obtain ⟨h1, h2⟩ := hSw; go_simp; try (with_reducible rfl))
        simp only [Act.put, List.setIfInBounds_toArray, List.set_cons_zero, List.set_cons_succ]
        refine wpAnyH_take (i := 4) (v := ?_) (List.getElem?_toArray.trans rfl) (by kernel_rfl) (by kernel_rfl) (by kernel_rfl) (fun _ _ _ h => h) (Or.inl ⟨by rfl, ?_⟩) (by assumption) ?_
        rotate_left
        · (intro w hSw; obtain ⟨h1, h2⟩ := hSw; go_simp; try (with_reducible rfl))
        simp only [Act.put, List.setIfInBounds_toArray, List.set_cons_zero, List.set_cons_succ]
        refine wpAnyH_take (i := 5) (v := ?_) (List.getElem?_toArray.trans rfl) (by kernel_rfl) (by kernel_rfl) (by kernel_rfl) (fun _ _ _ h => h) (Or.inl ⟨by rfl, ?_⟩) (by assumption) ?_
        rotate_left
        · (intro w hSw; obtain ⟨h1, h2⟩ := hSw; go_simp; try (with_reducible rfl))
        simp only [Act.put, List.setIfInBounds_toArray, List.set_cons_zero, List.set_cons_succ]
        refine wpAnyH_take (i := 6) (v := ?_) (List.getElem?_toArray.trans rfl) (by kernel_rfl) (by kernel_rfl) (by kernel_rfl) (fun _ _ _ h => h) (Or.inl ⟨by rfl, ?_⟩) (by assumption) ?_
        rotate_left
        · (intro w hSw; obtain ⟨h1, h2⟩ := hSw; go_simp; try (with_reducible rfl))
        simp only [Act.put, List.setIfInBounds_toArray, List.set_cons_zero, List.set_cons_succ]
        refine wpAnyH_take (i := 7) (v := ?_) (List.getElem?_toArray.trans rfl) (by kernel_rfl) (by kernel_rfl) (by kernel_rfl) (fun _ _ _ h => h) (Or.inl ⟨by rfl, ?_⟩) (by assumption) ?_
        rotate_left
        · (intro w hSw; obtain ⟨h1, h2⟩ := hSw; go_simp; try (with_reducible rfl))
        simp only [Act.put, List.setIfInBounds_toArray, List.set_cons_zero, List.set_cons_succ]
        refine wpAnyH_take (i := 8) (v := ?_) (List.getElem?_toArray.trans rfl) (by kernel_rfl) (by kernel_rfl) (by kernel_rfl) (fun _ _ _ h => h) (Or.inl ⟨by rfl, ?_⟩) (by assumption) ?_
        rotate_left
        · (intro w hSw; obtain ⟨h1, h2⟩ := hSw; go_simp; try (with_reducible rfl))
        simp only [Act.put, List.setIfInBounds_toArray, List.set_cons_zero, List.set_cons_succ]
        refine wpAnyH_take (i := 9) (v := ?_) (List.getElem?_toArray.trans rfl) (by kernel_rfl) (by kernel_rfl) (by kernel_rfl) (fun _ _ _ h => h) (Or.inl ⟨by rfl, ?_⟩) (by assumption) ?_
        rotate_left
        · (intro w hSw; obtain ⟨h1, h2⟩ := hSw; go_simp; try (with_reducible rfl))
        simp only [Act.put, List.setIfInBounds_toArray, List.set_cons_zero, List.set_cons_succ]
        refine wpAnyH_take (i := 10) (v := ?_) (List.getElem?_toArray.trans rfl) (by kernel_rfl) (by kernel_rfl) (by kernel_rfl) (fun _ _ _ h => h) (Or.inl ⟨by rfl, ?_⟩) (by assumption) ?_
        rotate_left
        · (intro w hSw; obtain ⟨h1, h2⟩ := hSw; go_simp; try (with_reducible rfl))
        simp only [Act.put, List.setIfInBounds_toArray, List.set_cons_zero, List.set_cons_succ]
        refine wpAnyH_ready (rs := [11]) (by kernel_rfl) (by simp) ?_
        refine AllReadyH.cons (List.getElem?_toArray.trans rfl) (fun K3 hK3 => ?_) AllReadyH.nil
        go_simp
        refine (cP).mono ?_
        rintro e w1 ⟨rfl, s2, g2⟩
        have hcl2 := HCL.out w1 (HD.out.trans g2).off
        dsimp only
        refine hK3.out _ _ hcl2 (fun hHeld3 => ?_)
        clear hK3 K3
        refine wpAnyH_take (i := 12) (v := ?_) (List.getElem?_toArray.trans rfl) (by kernel_rfl) (by kernel_rfl) (by kernel_rfl) (fun _ _ _ h => h) (Or.inl ⟨by rfl, ?_⟩) (by assumption) ?_
        rotate_left
        · (intro w hSw; obtain ⟨h1, h2⟩ := hSw; go_simp; try (with_reducible rfl))
        simp only [Act.put, List.setIfInBounds_toArray, List.set_cons_zero, List.set_cons_succ]
        refine wpAnyH_done (by kernel_rfl) ?_ _
        go_wp2
        go_roundw
        case rel => exact ⟨k + 1, by omega, by go_num, hid ⟨by rw [HN.out.1]; exact HX.out, by rw [HN.out.2]; exact s2, (HK.out.2.2.trans (Goes.of_below (below_drew (Below.refl _ _)))).trans g2⟩⟩
        case measure => simp [RowKit.intOf]; omega
      · have hX1 : (X != 0) = true := by simpa using hX0
        have HX0 := hid hX0
        clear hX0
        go_wp2_with fail
        refine wp_region_held_drew (S := fun w' => w'.cell? ⟨b, off + k * 2, none⟩ = some (.int .i64 (ln : Int)) ∧ w'.cell? ⟨b, off + k * 2 + 1, none⟩ = some (.slice (D k).ba (D k).bl (D k).bc)) (by kernel_rfl) hcell (fun hH => ?_)
        refine wpAnyH_take (i := 0) (v := ?_) (List.getElem?_toArray.trans rfl) (by kernel_rfl) (by kernel_rfl) (by kernel_rfl) (fun _ _ _ h => h) (Or.inl ⟨by rfl, ?_⟩) (by assumption) ?_
        rotate_left
        · (intro w hSw; obtain ⟨h1, h2⟩ := hSw; go_simp; try (with_reducible rfl))
        simp only [Act.put, List.setIfInBounds_toArray, List.set_cons_zero, List.set_cons_succ]
        refine wpAnyH_take (i := 1) (v := ?_) (List.getElem?_toArray.trans rfl) (by kernel_rfl) (by kernel_rfl) (by kernel_rfl) (fun _ _ _ h => h) (Or.inl ⟨by rfl, ?_⟩) (by assumption) ?_
        rotate_left
        · (intro w hSw; obtain ⟨h1, h2⟩ := hSw; go_simp; try (with_reducible rfl))
        simp only [Act.put, List.setIfInBounds_toArray, List.set_cons_zero, List.set_cons_succ]
        refine wpAnyH_take (i := 2) (v := ?_) (List.getElem?_toArray.trans rfl) (by kernel_rfl) (by kernel_rfl) (by kernel_rfl) (fun _ _ _ h => h) (Or.inl ⟨by rfl, ?_⟩) (by assumption) ?_
        rotate_left
        · (intro w hSw; obtain ⟨h1, h2⟩ := hSw; go_simp; try (with_reducible rfl))
        simp only [Act.put, List.setIfInBounds_toArray, List.set_cons_zero, List.set_cons_succ]
        refine wpAnyH_take (i := 3) (v := ?_) (List.getElem?_toArray.trans rfl) (by kernel_rfl) (by kernel_rfl) (by kernel_rfl) (fun _ _ _ h => h) (Or.inl ⟨by rfl, ?_⟩) (by assumption) ?_
        rotate_left
        · (intro w hSw; obtain ⟨h1, h2⟩ := hSw; go_simp; try (with_reducible rfl))
        simp only [Act.put, List.setIfInBounds_toArray, List.set_cons_zero, List.set_cons_succ]
        refine wpAnyH_take (i := 4) (v := ?_) (List.getElem?_toArray.trans rfl) (by kernel_rfl) (by kernel_rfl) (by kernel_rfl) (fun _ _ _ h => h) (Or.inl ⟨by rfl, ?_⟩) (by assumption) ?_
        rotate_left
        · (intro w hSw; obtain ⟨h1, h2⟩ := hSw; go_simp; try (with_reducible rfl))
        simp only [Act.put, List.setIfInBounds_toArray, List.set_cons_zero, List.set_cons_succ]
        refine wpAnyH_take (i := 5) (v := ?_) (List.getElem?_toArray.trans rfl) (by kernel_rfl) (by kernel_rfl) (by kernel_rfl) (fun _ _ _ h => h) (Or.inl ⟨by rfl, ?_⟩) (by assumption) ?_
        rotate_left
        · (intro w hSw; obtain ⟨h1, h2⟩ := hSw; go_simp; try (with_reducible rfl))
        simp only [Act.put, List.setIfInBounds_toArray, List.set_cons_zero, List.set_cons_succ]
        refine wpAnyH_take (i := 6) (v := ?_) (List.getElem?_toArray.trans rfl) (by kernel_rfl) (by kernel_rfl) (by kernel_rfl) (fun _ _ _ h => h) (Or.inl ⟨by rfl, ?_⟩) (by assumption) ?_
        rotate_left
        · (intro w hSw; obtain ⟨h1, h2⟩ := hSw; go_simp; try (with_reducible rfl))
        simp only [Act.put, List.setIfInBounds_toArray, List.set_cons_zero, List.set_cons_succ]
        refine wpAnyH_take (i := 7) (v := ?_) (List.getElem?_toArray.trans rfl) (by kernel_rfl) (by kernel_rfl) (by kernel_rfl) (fun _ _ _ h => h) (Or.inl ⟨by rfl, ?_⟩) (by assumption) ?_
        rotate_left
        · (intro w hSw; obtain ⟨h1, h2⟩ := hSw; go_simp; try (with_reducible rfl))
        simp only [Act.put, List.setIfInBounds_toArray, List.set_cons_zero, List.set_cons_succ]
        refine wpAnyH_take (i := 8) (v := ?_) (List.getElem?_toArray.trans rfl) (by kernel_rfl) (by kernel_rfl) (by kernel_rfl) (fun _ _ _ h => h) (Or.inl ⟨by rfl, ?_⟩) (by assumption) ?_
        rotate_left
        · (intro w hSw; obtain ⟨h1, h2⟩ := hSw; go_simp; try (with_reducible rfl))
        simp only [Act.put, List.setIfInBounds_toArray, List.set_cons_zero, List.set_cons_succ]
        refine wpAnyH_take (i := 9) (v := ?_) (List.getElem?_toArray.trans rfl) (by kernel_rfl) (by kernel_rfl) (by kernel_rfl) (fun _ _ _ h => h) (Or.inl ⟨by rfl, ?_⟩) (by assumption) ?_
        rotate_left
        · (intro w hSw; obtain ⟨h1, h2⟩ := hSw; go_simp; try (with_reducible rfl))
        simp only [Act.put, List.setIfInBounds_toArray, List.set_cons_zero, List.set_cons_succ]
        refine wpAnyH_take (i := 10) (v := ?_) (List.getElem?_toArray.trans rfl) (by kernel_rfl) (by kernel_rfl) (by kernel_rfl) (fun _ _ _ h => h) (Or.inl ⟨by rfl, ?_⟩) (by assumption) ?_
        rotate_left
        · (intro w hSw; obtain ⟨h1, h2⟩ := hSw; go_simp; try (with_reducible rfl))
        simp only [Act.put, List.setIfInBounds_toArray, List.set_cons_zero, List.set_cons_succ]
        refine wpAnyH_ready (rs := [11]) (by kernel_rfl) (by simp) ?_
        refine AllReadyH.cons (List.getElem?_toArray.trans rfl) (fun K3 hK3 => ?_) AllReadyH.nil
        go_simp
        refine (cP).mono ?_
        rintro e w1 ⟨rfl, s2, g2⟩
        have hcl2 := HCL.out w1 (HD.out.trans g2).off
        dsimp only
        refine hK3.out _ _ hcl2 (fun hHeld3 => ?_)
        clear hK3 K3
        refine wpAnyH_take (i := 12) (v := ?_) (List.getElem?_toArray.trans rfl) (by kernel_rfl) (by kernel_rfl) (by kernel_rfl) (fun _ _ _ h => h) (Or.inl ⟨by rfl, ?_⟩) (by assumption) ?_
        rotate_left
        · (intro w hSw; obtain ⟨h1, h2⟩ := hSw; go_simp; try (with_reducible rfl))
        simp only [Act.put, List.setIfInBounds_toArray, List.set_cons_zero, List.set_cons_succ]
        refine wpAnyH_done (by kernel_rfl) ?_ _
        go_wp2
        go_ret
        obtain ⟨z1, z2⟩ := HST.out (by rw [HX.out]; exact HX0.out)
        rw [z1, z2, HX.out]
        exact ⟨rfl, s2, HD.out.trans g2⟩
    · obtain rfl : k = m := by omega
      have hki : ¬ ((k : Int) < (k : Int)) := by omega
      have s1 : Shows wr G q T := by
        have := HK.out.2.1
        rw [hT] at this
        exact this
      have cF := s1.fence
      have HF := hid (ends_fence (mk := mk) HK.out.1)
      obtain ⟨X, hX⟩ : ∃ X, stpE T .fe = X := ⟨_, rfl⟩
      rw [hX] at cF
      have HX := hid hX
      clear hX hT s1
      by_cases hX0 : X = 0
      · subst hX0
        obtain ⟨z1, z2⟩ := HF.out.2 (by rw [HT.out]; exact HX.out)
        rw [HT.out] at z1 z2
        have HZ := hid (And.intro z1 z2)
        obtain ⟨Y, hY⟩ : ∃ Y, runE (stpS T .fe) (putL mk (markL []) true) = Y := ⟨_, rfl⟩
        obtain ⟨U, hU⟩ : ∃ U, runS (stpS T .fe) (putL mk (markL []) true) = U := ⟨_, rfl⟩
        have HYU := hid (And.intro hY hU)
        clear z1 z2 hY hU
        go_wp2_with (first
          | (go_at_call 55; with_reducible refine cF.mono ?_; rintro e w1 ⟨rfl, s1, g1⟩))
        have hlog : ∀ w', Off G (w.alloc (.cells #[.int .i64 (mk : Int), .int .i64 F, .int .i64 R] 24)) w' → w'.cell? ⟨w.heap.size, 0, none⟩ = some (.int .i64 (mk : Int)) := fun w' ho => by
          rw [World.cell?_of_block (a := ⟨w.heap.size, 0, none⟩) (ho.block w.heap.size (by simp) (fun hg => by have := HC.out.2.2.2.2.1 _ hg; omega))]
          exact HC.out.2.2.2.2.2.2.c0
        have g1' : Goes G (w.alloc (.cells #[.int .i64 (mk : Int), .int .i64 F, .int .i64 R] 24)) G w1.drew := (HK.out.2.2.trans g1).trans (Goes.of_below (below_drew (Below.refl _ _)))
        have HLG := hid hlog
        have hl1 := hlog w1.drew g1'.off
        have cM := refmark_any 0 none 0 0 [] w1.drew (sl_none _) (by intro z hz; cases hz) (by omega) rfl
        have HG1 := hid g1'
        have HS1 := hid s1
        clear hlog g1' s1
        refine wp_region_held_drew (S := fun w' => w'.cell? ⟨w.heap.size, 0, none⟩ = some (.int .i64 (mk : Int))) (by kernel_rfl) hl1 (fun hH => ?_)
        refine wpAnyH_take (i := 0) (v := ?_) (List.getElem?_toArray.trans rfl) (by kernel_rfl) (by kernel_rfl) (by kernel_rfl) (fun _ _ _ h => h) (Or.inl ⟨by rfl, ?_⟩) (by assumption) ?_
        rotate_left
        · (intro w hSw; skip; go_simp; try (with_reducible rfl))
        simp only [Act.put, List.setIfInBounds_toArray, List.set_cons_zero, List.set_cons_succ]
        refine wpAnyH_take (i := 1) (v := ?_) (List.getElem?_toArray.trans rfl) (by kernel_rfl) (by kernel_rfl) (by kernel_rfl) (fun _ _ _ h => h) (Or.inl ⟨by rfl, ?_⟩) (by assumption) ?_
        rotate_left
        · (intro w hSw; skip; go_simp; try (with_reducible rfl))
        simp only [Act.put, List.setIfInBounds_toArray, List.set_cons_zero, List.set_cons_succ]
        refine wpAnyH_take (i := 2) (v := ?_) (List.getElem?_toArray.trans rfl) (by kernel_rfl) (by kernel_rfl) (by kernel_rfl) (fun _ _ _ h => h) (Or.inl ⟨by rfl, ?_⟩) (by assumption) ?_
        rotate_left
        · (intro w hSw; skip; go_simp; try (with_reducible rfl))
        simp only [Act.put, List.setIfInBounds_toArray, List.set_cons_zero, List.set_cons_succ]
        refine wpAnyH_ready (rs := [3]) (by kernel_rfl) (by simp) ?_
        refine AllReadyH.cons (List.getElem?_toArray.trans rfl) (fun K3 hK3 => ?_) AllReadyH.nil
        go_simp
        refine (cM).mono ?_
        rintro e w2 ⟨gm, cm, rfl, oM, b2⟩
        have g2 := HG1.out.trans (Goes.of_below b2)
        have hl2 := HLG.out w2 g2.off
        have s2 : Shows w2 G q (stpS T .fe) := (HS1.out.below (below_drew (Below.refl _ _))).below b2
        have cP := put_any s2 mk hmk (some ⟨gm, 0, none⟩) 64 cm (markL []) oM.sl (markL_bytes _) (by omega) (fun _ c hc hg => by
          have h1 := oM.bound c hc
          have h2 := (HS1.out.below (w' := w1.drew) (below_drew (Below.refl _ _))).bound _ hg
          omega) true
        rw [HYU.out.1, HYU.out.2] at cP
        dsimp only
        refine hK3.out _ _ hl2 (fun hHeld3 => ?_)
        clear hK3 K3
        refine wpAnyH_ready (rs := [4]) (by kernel_rfl) (by simp) ?_
        refine AllReadyH.cons (List.getElem?_toArray.trans rfl) (fun K3 hK3 => ?_) AllReadyH.nil
        go_simp
        refine (cP).mono ?_
        rintro e w3 ⟨rfl, s3, g3⟩
        have hl3 := HLG.out w3 (g2.trans g3).off
        dsimp only
        refine hK3.out _ _ hl3 (fun hHeld3 => ?_)
        clear hK3 K3
        refine wpAnyH_take (i := 5) (v := ?_) (List.getElem?_toArray.trans rfl) (by kernel_rfl) (by kernel_rfl) (by kernel_rfl) (fun _ _ _ h => h) (Or.inl ⟨by rfl, ?_⟩) (by assumption) ?_
        rotate_left
        · (intro w hSw; skip; go_simp; try (with_reducible rfl))
        simp only [Act.put, List.setIfInBounds_toArray, List.set_cons_zero, List.set_cons_succ]
        refine wpAnyH_done (by kernel_rfl) ?_ _
        go_wp2
        go_ret
        rw [HZ.out.1, HZ.out.2, HYU.out.1, HYU.out.2]
        exact ⟨rfl, s3, (Goes.of_below HC.out.2.2.2.2.2.1).trans (g2.trans g3)⟩
      · have hX1 : (X != 0) = true := by simpa using hX0
        obtain ⟨z1, z2⟩ := HF.out.1 (by rw [HT.out, HX.out]; exact hX0)
        rw [HT.out] at z1 z2
        have HZ := hid (And.intro z1 z2)
        clear z1 z2 hX0
        go_wp2_with (first
          | (go_at_call 55; with_reducible refine cF.mono ?_; rintro e w1 ⟨rfl, s1, g1⟩))
        go_ret
        rw [HZ.out.1, HZ.out.2, HX.out]
        exact ⟨rfl, s1, HGO.out.trans g1⟩
end Go.Proofs.YtgiippbjieecmaaGreat
/- joistref05.Commit by its contract. -/
namespace Go.Proofs.YtgiippbjieecmaaGreat
set_option maxRecDepth 100000
open Go.RowKit
set_option linter.unusedVariables false

theorem ChOk.off {F : Nat → Prop} {w w' : World} {c : ChD} (h : ChOk w c) (ho : Off F w w') (hno : 0 < c.bl → ∀ a, c.ba = some a → ¬ F a.block) : ChOk w' c := ⟨h.r, h.bs.off ho hno, h.by_, h.bm⟩
theorem Chs.off {F : Nat → Prop} {w w' : World} {ao : Option Addr} {n : Nat} {D : Nat → ChD} (h : Chs w ao n D) (ho : Off F w w') (hl : 0 < n → ∀ c, ao = some c → ¬ F c.block) (hno : ∀ i, i < n → 0 < (D i).bl → ∀ c, (D i).ba = some c → ¬ F c.block) : Chs w' ao n D := by
  refine ⟨h.fit, fun hn => ?_, fun i hi => (h.ok i hi).off ho (hno i hi)⟩
  obtain ⟨b, off, e, hb, hc⟩ := h.here hn
  have hnb : ¬ F b := hl hn ⟨b, off, none⟩ e
  refine ⟨b, off, e, Nat.lt_of_lt_of_le hb ho.size, fun i hi => ?_⟩
  rw [World.cell?_of_block (a := ⟨b, off + i * 2, none⟩) (ho.block b hb hnb), World.cell?_of_block (a := ⟨b, off + i * 2 + 1, none⟩) (ho.block b hb hnb)]
  exact hc i hi
theorem Shows.lines {w : World} {G : Nat → Prop} {q : Nat} {S : St} (h : Shows w G q S) : Calls Tryz.prog 33 #[.pointer (some ⟨q, 0, none⟩)] w fun e w' => e = .returned (.int .i64 (S.n : Int)) ∧ w = w' := by
  obtain ⟨R, h1, h2⟩ := h.dev
  have hc := rlines_any h1
  rw [h2.n] at hc
  exact hc
theorem run_keep2 {S : St} {fi mk : Nat} {b m : List Int} {x : List Stp} :
    (¬ runE S (putL fi b true) = 0 → runE S ((keepS fi b ++ keepS mk m) ++ x) = runE S (putL fi b true) ∧ runS S ((keepS fi b ++ keepS mk m) ++ x) = runS S (putL fi b true)) ∧
    (runE S (putL fi b true) = 0 → ¬ runE (runS S (putL fi b true)) (putL mk m true) = 0 → runE S ((keepS fi b ++ keepS mk m) ++ x) = runE (runS S (putL fi b true)) (putL mk m true) ∧ runS S ((keepS fi b ++ keepS mk m) ++ x) = runS (runS S (putL fi b true)) (putL mk m true)) ∧
    (runE S (putL fi b true) = 0 → runE (runS S (putL fi b true)) (putL mk m true) = 0 → runE S ((keepS fi b ++ keepS mk m) ++ x) = runE (runS (runS S (putL fi b true)) (putL mk m true)) x ∧ runS S ((keepS fi b ++ keepS mk m) ++ x) = runS (runS (runS S (putL fi b true)) (putL mk m true)) x) := by
  rw [keep_put, keep_put, List.append_assoc]
  refine ⟨fun h => (run_append _ _ _).2 h, fun h k => ?_, fun h k => ?_⟩
  · rw [((run_append _ _ _).1 h).1, ((run_append _ _ _).1 h).2]
    exact (run_append _ _ _).2 k
  · rw [((run_append _ _ _).1 h).1, ((run_append _ _ _).1 h).2]
    exact (run_append _ _ _).1 k
theorem logAt_off {F : Nat → Prop} {w w' : World} {b : Nat} {M F1 R : Int} (h : LogAt w b M F1 R) (ho : Off F w w') (hn : ¬ F b) : LogAt w' b M F1 R :=
  ⟨Nat.lt_of_lt_of_le h.lt ho.size, (World.cell?_of_block (a := ⟨b, 0, none⟩) (ho.block b h.lt hn)).trans h.c0, (World.cell?_of_block (a := ⟨b, 1, none⟩) (ho.block b h.lt hn)).trans h.c1, (World.cell?_of_block (a := ⟨b, 2, none⟩) (ho.block b h.lt hn)).trans h.c2⟩
set_option maxHeartbeats 6400000 in
theorem refcommit_any {w : World} {G : Nat → Prop} {q : Nat} {S : St} (h : Shows w G q S) (M F R : Int) (lo : Option Addr) (m lc : Nat) (D : Nat → ChD) (hg : (Lg.mk M F R).Ok) (hc : Chs w lo m D) (hl : 0 < m → ∀ c, lo = some c → ¬ G c.block) (hno : ∀ i, i < m → 0 < (D i).bl → ∀ c, (D i).ba = some c → ¬ G c.block) :
    Calls Tryz.prog 9 #[.pointer (some ⟨q, 0, none⟩), .agg #[.int .i64 M, .int .i64 F, .int .i64 R], .slice lo m lc] w fun e w' => e = .returned (.int .i64 (commitE S ⟨M, F, R⟩ (saysN D m))) ∧ Shows w' G q (commitS S ⟨M, F, R⟩ (saysN D m)) ∧ Goes G w G w' := by
  have hm9 := hc.fit
  have hN4 := h.ok.n1
  have rgN : Rg (S.n : Int) := by unfold Rg; omega
  have hb := (Below.refl w.heap.size w).alloc (Nat.le_refl _) (.cells #[.int .i64 M, .int .i64 F, .int .i64 R] 24)
  have hbd : Below w.heap.size w (w.alloc (.cells #[.int .i64 M, .int .i64 F, .int .i64 R] 24)).drew := hb.trans (below_drew (Below.refl _ _))
  have hL := (logAt_new w M F R).below (w' := (w.alloc (.cells #[.int .i64 M, .int .i64 F, .int .i64 R] 24)).drew) (below_drew (Below.refl _ _))
  have s0 := h.below hbd
  have cL := s0.lines
  have cR := refwright_any M F R (S.n : Int) (w.alloc (.cells #[.int .i64 M, .int .i64 F, .int .i64 R] 24)).drew hg rgN
  have hcA := hc.below hbd
  have HC := hid (And.intro hcA (And.intro hl (And.intro hno (And.intro h.bound (And.intro hbd s0)))))
  have hl0 : saysN D m ≠ [] ↔ 0 < m := by
    have := saysN_length D m
    constructor
    · intro h
      have := List.length_pos_iff.2 h
      omega
    · intro h e
      rw [e] at this
      simp at this
      omega
  obtain ⟨EE, hEE⟩ : ∃ EE, EE = commitE S ⟨M, F, R⟩ (saysN D m) := ⟨_, rfl⟩
  obtain ⟨SS, hSS⟩ : ∃ SS, SS = commitS S ⟨M, F, R⟩ (saysN D m) := ⟨_, rfl⟩
  rw [← hEE, ← hSS]
  have HX := hid (And.intro hEE (And.intro hSS hl0))
  clear hEE hSS hl0 hcA s0 hb hbd h hc hl hno
  cases h1 : rightG ⟨M, F, R⟩ (S.n : Int) with
  | false =>
    have HF := hid (commit_arg (S := S) (g := ⟨M, F, R⟩) (l := saysN D m) (by unfold comB; rw [h1]; rfl))
    rw [h1] at cR
    go_enter Tryz.func9, Tryz.ntmps9
    go_wp2_with fail
    refine wp_region_held_drew (S := fun w' => w'.cell? ⟨w.heap.size, 0, none⟩ = some (.int .i64 M) ∧ w'.cell? ⟨w.heap.size, 1, none⟩ = some (.int .i64 F) ∧ w'.cell? ⟨w.heap.size, 2, none⟩ = some (.int .i64 R)) (by kernel_rfl) ⟨hL.c0, hL.c1, hL.c2⟩ (fun hH => ?_)
    refine wpAnyH_take (i := 0) (v := ?_) (List.getElem?_toArray.trans rfl) (by kernel_rfl) (by kernel_rfl) (by kernel_rfl) (fun _ _ _ h => h) (Or.inl ⟨by rfl, ?_⟩) (by assumption) ?_
    rotate_left
    · (intro w hSw; obtain ⟨h1, h2, h3⟩ := hSw; go_simp; try (with_reducible rfl))
    simp only [Act.put, List.setIfInBounds_toArray, List.set_cons_zero, List.set_cons_succ]
    refine wpAnyH_take (i := 1) (v := ?_) (List.getElem?_toArray.trans rfl) (by kernel_rfl) (by kernel_rfl) (by kernel_rfl) (fun _ _ _ h => h) (Or.inl ⟨by rfl, ?_⟩) (by assumption) ?_
    rotate_left
    · (intro w hSw; obtain ⟨h1, h2, h3⟩ := hSw; go_simp; try (with_reducible rfl))
    simp only [Act.put, List.setIfInBounds_toArray, List.set_cons_zero, List.set_cons_succ]
    refine wpAnyH_ready (rs := [2]) (by kernel_rfl) (by simp) ?_
    refine AllReadyH.cons (List.getElem?_toArray.trans rfl) (fun K3 hK3 => ?_) AllReadyH.nil
    go_simp
    refine (cL).mono ?_
    rintro e w' ⟨rfl, rfl⟩
    dsimp only
    refine hK3.out _ _ ⟨hL.c0, hL.c1, hL.c2⟩ (fun hHeld3 => ?_)
    clear hK3 K3
    refine wpAnyH_ready (rs := [3]) (by kernel_rfl) (by simp) ?_
    refine AllReadyH.cons (List.getElem?_toArray.trans rfl) (fun K3 hK3 => ?_) AllReadyH.nil
    go_simp
    refine (cR).mono ?_
    rintro e w1 ⟨rfl, b1⟩
    have l1 := hL.below b1
    dsimp only
    refine hK3.out _ _ ⟨l1.c0, l1.c1, l1.c2⟩ (fun hHeld3 => ?_)
    clear hK3 K3
    refine wpAnyH_take (i := 4) (v := ?_) (List.getElem?_toArray.trans rfl) (by kernel_rfl) (by kernel_rfl) (by kernel_rfl) (fun _ _ _ h => h) (Or.inl ⟨by rfl, ?_⟩) (by assumption) ?_
    rotate_left
    · (intro w hSw; obtain ⟨h1, h2, h3⟩ := hSw; go_simp; try (with_reducible rfl))
    simp only [Act.put, List.setIfInBounds_toArray, List.set_cons_zero, List.set_cons_succ]
    refine wpAnyH_take (i := 5) (v := ?_) (List.getElem?_toArray.trans rfl) (by kernel_rfl) (by kernel_rfl) (by kernel_rfl) (fun _ _ _ h => h) (Or.inl ⟨by rfl, ?_⟩) (by assumption) ?_
    rotate_left
    · (intro w hSw; obtain ⟨h1, h2, h3⟩ := hSw; go_simp; try (with_reducible rfl))
    simp only [Act.put, List.setIfInBounds_toArray, List.set_cons_zero, List.set_cons_succ]
    refine wpAnyH_take (i := 6) (v := undef) (List.getElem?_toArray.trans rfl) (by kernel_rfl) (by kernel_rfl) (by kernel_rfl) (fun _ _ _ h => h) (Or.inr ⟨by rfl, rfl⟩) (by assumption) ?_
    simp only [Act.put, List.setIfInBounds_toArray, List.set_cons_zero, List.set_cons_succ]
    refine wpAnyH_take (i := 7) (v := undef) (List.getElem?_toArray.trans rfl) (by kernel_rfl) (by kernel_rfl) (by kernel_rfl) (fun _ _ _ h => h) (Or.inr ⟨by rfl, rfl⟩) (by assumption) ?_
    simp only [Act.put, List.setIfInBounds_toArray, List.set_cons_zero, List.set_cons_succ]
    refine wpAnyH_take (i := 8) (v := undef) (List.getElem?_toArray.trans rfl) (by kernel_rfl) (by kernel_rfl) (by kernel_rfl) (fun _ _ _ h => h) (Or.inr ⟨by rfl, rfl⟩) (by assumption) ?_
    simp only [Act.put, List.setIfInBounds_toArray, List.set_cons_zero, List.set_cons_succ]
    refine wpAnyH_take (i := 9) (v := undef) (List.getElem?_toArray.trans rfl) (by kernel_rfl) (by kernel_rfl) (by kernel_rfl) (fun _ _ _ h => h) (Or.inr ⟨by rfl, rfl⟩) (by assumption) ?_
    simp only [Act.put, List.setIfInBounds_toArray, List.set_cons_zero, List.set_cons_succ]
    refine wpAnyH_take (i := 10) (v := undef) (List.getElem?_toArray.trans rfl) (by kernel_rfl) (by kernel_rfl) (by kernel_rfl) (fun _ _ _ h => h) (Or.inr ⟨by rfl, rfl⟩) (by assumption) ?_
    simp only [Act.put, List.setIfInBounds_toArray, List.set_cons_zero, List.set_cons_succ]
    refine wpAnyH_take (i := 11) (v := ?_) (List.getElem?_toArray.trans rfl) (by kernel_rfl) (by kernel_rfl) (by kernel_rfl) (fun _ _ _ h => h) (Or.inl ⟨by rfl, ?_⟩) (by assumption) ?_
    rotate_left
    · (intro w hSw; obtain ⟨h1, h2, h3⟩ := hSw; go_simp; try (with_reducible rfl))
    simp only [Act.put, List.setIfInBounds_toArray, List.set_cons_zero, List.set_cons_succ]
    refine wpAnyH_done (by kernel_rfl) ?_ _
    go_wp2
    go_ret
    rw [HX.out.1, HX.out.2.1, HF.out.1, HF.out.2]
    exact ⟨rfl, HC.out.2.2.2.2.2.below b1, Goes.of_below (next HC.out.2.2.2.2.1 b1)⟩
  | true =>
    rw [h1] at cR
    cases h2 : rightB (S.n : Int) D m with
    | false =>
      have HF := hid (commit_arg (S := S) (g := ⟨M, F, R⟩) (l := saysN D m) (by unfold comB; rw [h1, ← rightB_eq, h2]; rfl))
      go_enter Tryz.func9, Tryz.ntmps9
      go_wp2_with fail
      refine wp_region_held_drew (S := fun w' => w'.cell? ⟨w.heap.size, 0, none⟩ = some (.int .i64 M) ∧ w'.cell? ⟨w.heap.size, 1, none⟩ = some (.int .i64 F) ∧ w'.cell? ⟨w.heap.size, 2, none⟩ = some (.int .i64 R)) (by kernel_rfl) ⟨hL.c0, hL.c1, hL.c2⟩ (fun hH => ?_)
      refine wpAnyH_take (i := 0) (v := ?_) (List.getElem?_toArray.trans rfl) (by kernel_rfl) (by kernel_rfl) (by kernel_rfl) (fun _ _ _ h => h) (Or.inl ⟨by rfl, ?_⟩) (by assumption) ?_
      rotate_left
      · (intro w hSw; obtain ⟨h1, h2, h3⟩ := hSw; go_simp; try (with_reducible rfl))
      simp only [Act.put, List.setIfInBounds_toArray, List.set_cons_zero, List.set_cons_succ]
      refine wpAnyH_take (i := 1) (v := ?_) (List.getElem?_toArray.trans rfl) (by kernel_rfl) (by kernel_rfl) (by kernel_rfl) (fun _ _ _ h => h) (Or.inl ⟨by rfl, ?_⟩) (by assumption) ?_
      rotate_left
      · (intro w hSw; obtain ⟨h1, h2, h3⟩ := hSw; go_simp; try (with_reducible rfl))
      simp only [Act.put, List.setIfInBounds_toArray, List.set_cons_zero, List.set_cons_succ]
      refine wpAnyH_ready (rs := [2]) (by kernel_rfl) (by simp) ?_
      refine AllReadyH.cons (List.getElem?_toArray.trans rfl) (fun K3 hK3 => ?_) AllReadyH.nil
      go_simp
      refine (cL).mono ?_
      rintro e w' ⟨rfl, rfl⟩
      dsimp only
      refine hK3.out _ _ ⟨hL.c0, hL.c1, hL.c2⟩ (fun hHeld3 => ?_)
      clear hK3 K3
      refine wpAnyH_ready (rs := [3]) (by kernel_rfl) (by simp) ?_
      refine AllReadyH.cons (List.getElem?_toArray.trans rfl) (fun K3 hK3 => ?_) AllReadyH.nil
      go_simp
      refine (cR).mono ?_
      rintro e w1 ⟨rfl, b1⟩
      have l1 := hL.below b1
      dsimp only
      refine hK3.out _ _ ⟨l1.c0, l1.c1, l1.c2⟩ (fun hHeld3 => ?_)
      clear hK3 K3
      refine wpAnyH_take (i := 4) (v := ?_) (List.getElem?_toArray.trans rfl) (by kernel_rfl) (by kernel_rfl) (by kernel_rfl) (fun _ _ _ h => h) (Or.inl ⟨by rfl, ?_⟩) (by assumption) ?_
      rotate_left
      · (intro w hSw; obtain ⟨h1, h2, h3⟩ := hSw; go_simp; try (with_reducible rfl))
      simp only [Act.put, List.setIfInBounds_toArray, List.set_cons_zero, List.set_cons_succ]
      refine wpAnyH_take (i := 5) (v := ?_) (List.getElem?_toArray.trans rfl) (by kernel_rfl) (by kernel_rfl) (by kernel_rfl) (fun _ _ _ h => h) (Or.inl ⟨by rfl, ?_⟩) (by assumption) ?_
      rotate_left
      · (intro w hSw; obtain ⟨h1, h2, h3⟩ := hSw; go_simp; try (with_reducible rfl))
      simp only [Act.put, List.setIfInBounds_toArray, List.set_cons_zero, List.set_cons_succ]
      refine wpAnyH_take (i := 6) (v := ?_) (List.getElem?_toArray.trans rfl) (by kernel_rfl) (by kernel_rfl) (by kernel_rfl) (fun _ _ _ h => h) (Or.inl ⟨by rfl, ?_⟩) (by assumption) ?_
      rotate_left
      · (intro w hSw; obtain ⟨h1, h2, h3⟩ := hSw; go_simp; try (with_reducible rfl))
      simp only [Act.put, List.setIfInBounds_toArray, List.set_cons_zero, List.set_cons_succ]
      refine wpAnyH_take (i := 8) (v := ?_) (List.getElem?_toArray.trans rfl) (by kernel_rfl) (by kernel_rfl) (by kernel_rfl) (fun _ _ _ h => h) (Or.inl ⟨by rfl, ?_⟩) (by assumption) ?_
      rotate_left
      · (intro w hSw; obtain ⟨h1, h2, h3⟩ := hSw; go_simp; try (with_reducible rfl))
      simp only [Act.put, List.setIfInBounds_toArray, List.set_cons_zero, List.set_cons_succ]
      have cL1 := (HC.out.2.2.2.2.2.below b1).lines
      refine wpAnyH_ready (rs := [7]) (by kernel_rfl) (by simp) ?_
      refine AllReadyH.cons (List.getElem?_toArray.trans rfl) (fun K3 hK3 => ?_) AllReadyH.nil
      go_simp
      refine (cL1).mono ?_
      rintro e w' ⟨rfl, rfl⟩
      dsimp only
      refine hK3.out _ _ ⟨l1.c0, l1.c1, l1.c2⟩ (fun hHeld3 => ?_)
      clear hK3 K3
      have cK := refright_any (S.n : Int) lo m lc D w1 (HC.out.1.below b1)
      rw [h2] at cK
      refine wpAnyH_ready (rs := [9]) (by kernel_rfl) (by simp) ?_
      refine AllReadyH.cons (List.getElem?_toArray.trans rfl) (fun K3 hK3 => ?_) AllReadyH.nil
      go_simp
      refine (cK).mono ?_
      rintro e w2 ⟨rfl, b2⟩
      have l2 := l1.below b2
      dsimp only
      refine hK3.out _ _ ⟨l2.c0, l2.c1, l2.c2⟩ (fun hHeld3 => ?_)
      clear hK3 K3
      refine wpAnyH_take (i := 10) (v := ?_) (List.getElem?_toArray.trans rfl) (by kernel_rfl) (by kernel_rfl) (by kernel_rfl) (fun _ _ _ h => h) (Or.inl ⟨by rfl, ?_⟩) (by assumption) ?_
      rotate_left
      · (intro w hSw; obtain ⟨h1, h2, h3⟩ := hSw; go_simp; try (with_reducible rfl))
      simp only [Act.put, List.setIfInBounds_toArray, List.set_cons_zero, List.set_cons_succ]
      refine wpAnyH_take (i := 11) (v := ?_) (List.getElem?_toArray.trans rfl) (by kernel_rfl) (by kernel_rfl) (by kernel_rfl) (fun _ _ _ h => h) (Or.inl ⟨by rfl, ?_⟩) (by assumption) ?_
      rotate_left
      · (intro w hSw; obtain ⟨h1, h2, h3⟩ := hSw; go_simp; try (with_reducible rfl))
      simp only [Act.put, List.setIfInBounds_toArray, List.set_cons_zero, List.set_cons_succ]
      refine wpAnyH_done (by kernel_rfl) ?_ _
      go_wp2
      go_ret
      rw [HX.out.1, HX.out.2.1, HF.out.1, HF.out.2]
      exact ⟨rfl, (HC.out.2.2.2.2.2.below b1).below b2, Goes.of_below (next (next HC.out.2.2.2.2.1 b1) b2)⟩
    | true =>
      have hcom : comB S.n ⟨M, F, R⟩ (saysN D m) = true := by unfold comB; rw [h1, ← rightB_eq, h2]; rfl
      have hG := rightG_iff.1 h1
      have hRL : rightL (S.n : Int) (saysN D m) = true := by rw [← rightB_eq]; exact h2
      have g1 := hG.m0
      have g2 := hG.m1
      have g3 := hG.f0
      have g4 := hG.f1
      have g5 := hG.r0
      simp only at g1 g2 g3 g4 g5
      obtain ⟨mk, rfl⟩ : ∃ mk : Nat, M = mk := ⟨M.toNat, by omega⟩
      obtain ⟨fi, rfl⟩ : ∃ fi : Nat, F = fi := ⟨F.toNat, by omega⟩
      have hmk : mk ≤ 4096 := by omega
      have hfi : fi ≤ 4096 := by omega
      clear g1 g2 g3 g4 g5 hG
      obtain ⟨E0, hE0⟩ : ∃ E0, writeE ⟨mk, fi, R⟩ (saysN D m) = E0 := ⟨_, rfl⟩
      have HE0 := hid hE0
      have HRL := hid (And.intro hcom hRL)
      clear hcom hRL hE0
      go_enter Tryz.func9, Tryz.ntmps9
      go_wp2_with fail
      refine wp_region_held_drew (S := fun w' => w'.cell? ⟨w.heap.size, 0, none⟩ = some (.int .i64 (mk : Int)) ∧ w'.cell? ⟨w.heap.size, 1, none⟩ = some (.int .i64 (fi : Int)) ∧ w'.cell? ⟨w.heap.size, 2, none⟩ = some (.int .i64 R)) (by kernel_rfl) ⟨hL.c0, hL.c1, hL.c2⟩ (fun hH => ?_)
      refine wpAnyH_take (i := 0) (v := ?_) (List.getElem?_toArray.trans rfl) (by kernel_rfl) (by kernel_rfl) (by kernel_rfl) (fun _ _ _ h => h) (Or.inl ⟨by rfl, ?_⟩) (by assumption) ?_
      rotate_left
      · (intro w hSw; obtain ⟨h1, h2, h3⟩ := hSw; go_simp; try (with_reducible rfl))
      simp only [Act.put, List.setIfInBounds_toArray, List.set_cons_zero, List.set_cons_succ]
      refine wpAnyH_take (i := 1) (v := ?_) (List.getElem?_toArray.trans rfl) (by kernel_rfl) (by kernel_rfl) (by kernel_rfl) (fun _ _ _ h => h) (Or.inl ⟨by rfl, ?_⟩) (by assumption) ?_
      rotate_left
      · (intro w hSw; obtain ⟨h1, h2, h3⟩ := hSw; go_simp; try (with_reducible rfl))
      simp only [Act.put, List.setIfInBounds_toArray, List.set_cons_zero, List.set_cons_succ]
      refine wpAnyH_ready (rs := [2]) (by kernel_rfl) (by simp) ?_
      refine AllReadyH.cons (List.getElem?_toArray.trans rfl) (fun K3 hK3 => ?_) AllReadyH.nil
      go_simp
      refine (cL).mono ?_
      rintro e w' ⟨rfl, rfl⟩
      dsimp only
      refine hK3.out _ _ ⟨hL.c0, hL.c1, hL.c2⟩ (fun hHeld3 => ?_)
      clear hK3 K3
      refine wpAnyH_ready (rs := [3]) (by kernel_rfl) (by simp) ?_
      refine AllReadyH.cons (List.getElem?_toArray.trans rfl) (fun K3 hK3 => ?_) AllReadyH.nil
      go_simp
      refine (cR).mono ?_
      rintro e w1 ⟨rfl, b1⟩
      have l1 := hL.below b1
      dsimp only
      refine hK3.out _ _ ⟨l1.c0, l1.c1, l1.c2⟩ (fun hHeld3 => ?_)
      clear hK3 K3
      refine wpAnyH_take (i := 4) (v := ?_) (List.getElem?_toArray.trans rfl) (by kernel_rfl) (by kernel_rfl) (by kernel_rfl) (fun _ _ _ h => h) (Or.inl ⟨by rfl, ?_⟩) (by assumption) ?_
      rotate_left
      · (intro w hSw; obtain ⟨h1, h2, h3⟩ := hSw; go_simp; try (with_reducible rfl))
      simp only [Act.put, List.setIfInBounds_toArray, List.set_cons_zero, List.set_cons_succ]
      refine wpAnyH_take (i := 5) (v := ?_) (List.getElem?_toArray.trans rfl) (by kernel_rfl) (by kernel_rfl) (by kernel_rfl) (fun _ _ _ h => h) (Or.inl ⟨by rfl, ?_⟩) (by assumption) ?_
      rotate_left
      · (intro w hSw; obtain ⟨h1, h2, h3⟩ := hSw; go_simp; try (with_reducible rfl))
      simp only [Act.put, List.setIfInBounds_toArray, List.set_cons_zero, List.set_cons_succ]
      refine wpAnyH_take (i := 6) (v := ?_) (List.getElem?_toArray.trans rfl) (by kernel_rfl) (by kernel_rfl) (by kernel_rfl) (fun _ _ _ h => h) (Or.inl ⟨by rfl, ?_⟩) (by assumption) ?_
      rotate_left
      · (intro w hSw; obtain ⟨h1, h2, h3⟩ := hSw; go_simp; try (with_reducible rfl))
      simp only [Act.put, List.setIfInBounds_toArray, List.set_cons_zero, List.set_cons_succ]
      refine wpAnyH_take (i := 8) (v := ?_) (List.getElem?_toArray.trans rfl) (by kernel_rfl) (by kernel_rfl) (by kernel_rfl) (fun _ _ _ h => h) (Or.inl ⟨by rfl, ?_⟩) (by assumption) ?_
      rotate_left
      · (intro w hSw; obtain ⟨h1, h2, h3⟩ := hSw; go_simp; try (with_reducible rfl))
      simp only [Act.put, List.setIfInBounds_toArray, List.set_cons_zero, List.set_cons_succ]
      have cL1 := (HC.out.2.2.2.2.2.below b1).lines
      refine wpAnyH_ready (rs := [7]) (by kernel_rfl) (by simp) ?_
      refine AllReadyH.cons (List.getElem?_toArray.trans rfl) (fun K3 hK3 => ?_) AllReadyH.nil
      go_simp
      refine (cL1).mono ?_
      rintro e w' ⟨rfl, rfl⟩
      dsimp only
      refine hK3.out _ _ ⟨l1.c0, l1.c1, l1.c2⟩ (fun hHeld3 => ?_)
      clear hK3 K3
      have cK := refright_any (S.n : Int) lo m lc D w1 (HC.out.1.below b1)
      rw [h2] at cK
      refine wpAnyH_ready (rs := [9]) (by kernel_rfl) (by simp) ?_
      refine AllReadyH.cons (List.getElem?_toArray.trans rfl) (fun K3 hK3 => ?_) AllReadyH.nil
      go_simp
      refine (cK).mono ?_
      rintro e w2 ⟨rfl, b2⟩
      have l2 := l1.below b2
      dsimp only
      refine hK3.out _ _ ⟨l2.c0, l2.c1, l2.c2⟩ (fun hHeld3 => ?_)
      clear hK3 K3
      refine wpAnyH_take (i := 10) (v := ?_) (List.getElem?_toArray.trans rfl) (by kernel_rfl) (by kernel_rfl) (by kernel_rfl) (fun _ _ _ h => h) (Or.inl ⟨by rfl, ?_⟩) (by assumption) ?_
      rotate_left
      · (intro w hSw; obtain ⟨h1, h2, h3⟩ := hSw; go_simp; try (with_reducible rfl))
      simp only [Act.put, List.setIfInBounds_toArray, List.set_cons_zero, List.set_cons_succ]
      refine wpAnyH_take (i := 11) (v := ?_) (List.getElem?_toArray.trans rfl) (by kernel_rfl) (by kernel_rfl) (by kernel_rfl) (fun _ _ _ h => h) (Or.inl ⟨by rfl, ?_⟩) (by assumption) ?_
      rotate_left
      · (intro w hSw; obtain ⟨h1, h2, h3⟩ := hSw; go_simp; try (with_reducible rfl))
      simp only [Act.put, List.setIfInBounds_toArray, List.set_cons_zero, List.set_cons_succ]
      refine wpAnyH_done (by kernel_rfl) ?_ _
      have b12 : Below w.heap.size w w2 := next (next HC.out.2.2.2.2.1 b1) b2
      have x2 := (HC.out.1.below b1).below b2
      have s2 := (HC.out.2.2.2.2.2.below b1).below b2
      obtain ⟨y0, y1, y2⟩ := And.intro l2.c0 (And.intro l2.c1 l2.c2)
      have cW := refwrite_any mk fi R lo m lc D w2 hg x2
      rw [HE0.out] at cW
      have H2 := hid (And.intro b12 (And.intro x2 (And.intro s2 l2)))
      clear b12 x2 s2 l2 l1 b1 b2 cL cL1 cR cK hL hH
      by_cases hrun : E0 = 0 ∧ 0 < m
      · obtain ⟨rfl, hm0⟩ := hrun
        have hm0' : ((m : Int) == 0) = false := by simp; omega
        obtain ⟨r1, r2⟩ := commit_runs HRL.out.1 HE0.out (HX.out.2.2.2 hm0)
        have eA : writeA ⟨mk, fi, R⟩ (saysN D m) = recsL (saysN D m) := by unfold writeA; rw [if_pos HE0.out]
        have eM : writeM ⟨mk, fi, R⟩ (saysN D m) = markL (recsL (saysN D m)) := by unfold writeM; rw [if_pos HE0.out]
        rw [eA, eM] at cW
        have hcb : ∀ c ∈ saysN D m, Bytes c.2 := fun c hc => by
          unfold saysN at hc
          rw [List.mem_map] at hc
          obtain ⟨i, hi, rfl⟩ := hc
          exact (HC.out.1.ok i (by simpa using hi)).by_
        have hby := recsL_bytes hcb
        have hk2 := run_keep2 (S := S) (fi := fi) (mk := mk) (b := recsL (saysN D m)) (m := markL (recsL (saysN D m))) (x := finS mk (saysN D m))
        have ecom : comS ⟨mk, fi, R⟩ (saysN D m) = (keepS fi (recsL (saysN D m)) ++ keepS mk (markL (recsL (saysN D m)))) ++ finS mk (saysN D m) := by unfold comS; simp only [Int.toNat_natCast]
        rw [← ecom] at hk2
        have HRU := hid (And.intro r1 (And.intro r2 hk2))
        have HBY := hid hby
        have HLN : Hid (∀ i, i < m → 0 ≤ (D i).line ∧ (D i).line ≤ 4096) := fun i hi => by
          have hmem : (D i).says ∈ saysN D m := List.mem_of_getElem? (saysN_get D hi)
          have := rightL_mem HRL.out.2 hmem
          exact ⟨this.1, by have h3 := this.2.1; have : (D i).says.1 = (D i).line := rfl; omega⟩
        obtain ⟨E1, hE1⟩ : ∃ E1, runE S (putL fi (recsL (saysN D m)) true) = E1 := ⟨_, rfl⟩
        obtain ⟨S1, hS1⟩ : ∃ S1, runS S (putL fi (recsL (saysN D m)) true) = S1 := ⟨_, rfl⟩
        obtain ⟨E2, hE2⟩ : ∃ E2, runE S1 (putL mk (markL (recsL (saysN D m))) true) = E2 := ⟨_, rfl⟩
        obtain ⟨S2, hS2⟩ : ∃ S2, runS S1 (putL mk (markL (recsL (saysN D m))) true) = S2 := ⟨_, rfl⟩
        have HES := hid (And.intro hE1 (And.intro hS1 (And.intro hE2 hS2)))
        clear r1 r2 eA eM hcb hby hk2 ecom hm0 hE1 hS1 hE2 hS2
        by_cases e1 : E1 = 0
        · subst e1
          by_cases e2 : E2 = 0
          · subst e2
            go_wp2_with (first
              | (go_at_call 35; with_reducible refine cW.mono ?_; rintro e w3 ⟨ao, na, ca, bo, nb, cb, rfl, oa, om, hne, b3⟩; have s3 := H2.out.2.2.1.below b3; have l3 := H2.out.2.2.2.below b3; obtain ⟨u0, u1, u2⟩ := And.intro l3.c0 (And.intro l3.c1 l3.c2); have na9 := oa.cap_le; have nb9 := om.cap_le; have ra := oa.sl.room; have rb := om.sl.room; have hna : na ≤ 9223372036854775807 := Nat.le_trans ra na9.2; have hnb : nb ≤ 9223372036854775807 := Nat.le_trans rb nb9.2; have fa : 0 < na → ∀ c, ao = some c → ¬ G c.block := (fun _ c hc hg => by have h1 := oa.bound c hc; have h2 := H2.out.2.2.1.bound _ hg; omega); have fb : ∀ c, bo = some c → ¬ G c.block := (fun c hc hg => by have h1 := om.bound c hc; have h2 := H2.out.2.2.1.bound _ hg; omega); have cP := put_any s3 fi hfi ao na ca _ oa.sl HBY.out hna fa true; rw [HES.out.1, HES.out.2.1] at cP; have H3 := hid (And.intro b3 (And.intro om (And.intro fb l3))); clear s3 l3 oa om hne b3 fa fb na9 nb9 ra rb)
              | (go_at_call 36; with_reducible refine cP.mono ?_; rintro e w4 ⟨rfl, s4, g4⟩; have nlg : ¬ G w.heap.size := (fun hg => by have := HC.out.2.2.2.1 _ hg; omega); have l4 := logAt_off H3.out.2.2.2 g4.off nlg; obtain ⟨v0, v1, v2⟩ := And.intro l4.c0 (And.intro l4.c1 l4.c2); have om4 := H3.out.2.1.off g4.off H3.out.2.2.1; have cP2 := put_any s4 mk hmk bo nb cb _ om4.sl (markL_bytes _) hnb (fun _ => H3.out.2.2.1) true; rw [HES.out.2.2.1, HES.out.2.2.2] at cP2; have HL4 := hid l4; clear l4 om4 nlg; have H4 := hid (And.intro s4 g4); clear s4 g4 cP)
              | (go_at_call 36; with_reducible refine cP2.mono ?_; rintro e w5 ⟨rfl, s5, g5⟩; have nlg : ¬ G w.heap.size := (fun hg => by have := HC.out.2.2.2.1 _ hg; omega); have l5 := logAt_off HL4.out g5.off nlg; obtain ⟨x0, x1, x2⟩ := And.intro l5.c0 (And.intro l5.c1 l5.c2); have g35 := (Goes.of_below (F := G) H3.out.1).trans (H4.out.2.trans g5); have ch5 := H2.out.2.1.off g35.off HC.out.2.1 HC.out.2.2.1; have cN := ends_any (lc := lc) s5 mk hmk fi R lo m D ch5 HLN.out HC.out.2.1 HC.out.2.2.1; clear l5 nlg g35 ch5; have H5 := hid (And.intro s5 g5); clear s5 g5 cP2)
              | (go_at_call 37; with_reducible refine cN.mono ?_; rintro e w6 ⟨rfl, s6, g6⟩))
            go_ret
            obtain ⟨z1, z2⟩ := HRU.out.2.2.2.2 HES.out.1 (by rw [HES.out.2.1]; exact HES.out.2.2.1)
            rw [HX.out.1, HX.out.2.1, HRU.out.1, HRU.out.2.1, z1, z2, HES.out.2.1, HES.out.2.2.2]
            exact ⟨rfl, s6, (((Goes.of_below H2.out.1).trans (Goes.of_below H3.out.1)).trans (H4.out.2.trans H5.out.2)).trans g6⟩
          · have e2' : (E2 != 0) = true := by simpa using e2
            have HE2 := hid e2
            clear e2
            go_wp2_with (first
              | (go_at_call 35; with_reducible refine cW.mono ?_; rintro e w3 ⟨ao, na, ca, bo, nb, cb, rfl, oa, om, hne, b3⟩; have s3 := H2.out.2.2.1.below b3; have l3 := H2.out.2.2.2.below b3; obtain ⟨u0, u1, u2⟩ := And.intro l3.c0 (And.intro l3.c1 l3.c2); have na9 := oa.cap_le; have nb9 := om.cap_le; have ra := oa.sl.room; have rb := om.sl.room; have hna : na ≤ 9223372036854775807 := Nat.le_trans ra na9.2; have hnb : nb ≤ 9223372036854775807 := Nat.le_trans rb nb9.2; have fa : 0 < na → ∀ c, ao = some c → ¬ G c.block := (fun _ c hc hg => by have h1 := oa.bound c hc; have h2 := H2.out.2.2.1.bound _ hg; omega); have fb : ∀ c, bo = some c → ¬ G c.block := (fun c hc hg => by have h1 := om.bound c hc; have h2 := H2.out.2.2.1.bound _ hg; omega); have cP := put_any s3 fi hfi ao na ca _ oa.sl HBY.out hna fa true; rw [HES.out.1, HES.out.2.1] at cP; have H3 := hid (And.intro b3 (And.intro om (And.intro fb l3))); clear s3 l3 oa om hne b3 fa fb na9 nb9 ra rb)
              | (go_at_call 36; with_reducible refine cP.mono ?_; rintro e w4 ⟨rfl, s4, g4⟩; have nlg : ¬ G w.heap.size := (fun hg => by have := HC.out.2.2.2.1 _ hg; omega); have l4 := logAt_off H3.out.2.2.2 g4.off nlg; obtain ⟨v0, v1, v2⟩ := And.intro l4.c0 (And.intro l4.c1 l4.c2); have om4 := H3.out.2.1.off g4.off H3.out.2.2.1; have cP2 := put_any s4 mk hmk bo nb cb _ om4.sl (markL_bytes _) hnb (fun _ => H3.out.2.2.1) true; rw [HES.out.2.2.1, HES.out.2.2.2] at cP2; have HL4 := hid l4; clear l4 om4 nlg; have H4 := hid (And.intro s4 g4); clear s4 g4 cP)
              | (go_at_call 36; with_reducible refine cP2.mono ?_; rintro e w5 ⟨rfl, s5, g5⟩; have H5 := hid (And.intro s5 g5); clear s5 g5 cP2))
            go_ret
            obtain ⟨z1, z2⟩ := HRU.out.2.2.2.1 HES.out.1 (by rw [HES.out.2.1, HES.out.2.2.1]; exact HE2.out)
            rw [HX.out.1, HX.out.2.1, HRU.out.1, HRU.out.2.1, z1, z2, HES.out.2.1, HES.out.2.2.1, HES.out.2.2.2]
            exact ⟨rfl, H5.out.1, ((Goes.of_below H2.out.1).trans (Goes.of_below H3.out.1)).trans (H4.out.2.trans H5.out.2)⟩
        · have e1' : (E1 == 0) = false := by simpa using e1
          have e1'' : (E1 != 0) = true := by simpa using e1
          have HE1 := hid e1
          clear e1
          go_wp2_with (first
            | (go_at_call 35; with_reducible refine cW.mono ?_; rintro e w3 ⟨ao, na, ca, bo, nb, cb, rfl, oa, om, hne, b3⟩; have s3 := H2.out.2.2.1.below b3; have l3 := H2.out.2.2.2.below b3; obtain ⟨u0, u1, u2⟩ := And.intro l3.c0 (And.intro l3.c1 l3.c2); have na9 := oa.cap_le; have nb9 := om.cap_le; have ra := oa.sl.room; have rb := om.sl.room; have hna : na ≤ 9223372036854775807 := Nat.le_trans ra na9.2; have hnb : nb ≤ 9223372036854775807 := Nat.le_trans rb nb9.2; have fa : 0 < na → ∀ c, ao = some c → ¬ G c.block := (fun _ c hc hg => by have h1 := oa.bound c hc; have h2 := H2.out.2.2.1.bound _ hg; omega); have fb : ∀ c, bo = some c → ¬ G c.block := (fun c hc hg => by have h1 := om.bound c hc; have h2 := H2.out.2.2.1.bound _ hg; omega); have cP := put_any s3 fi hfi ao na ca _ oa.sl HBY.out hna fa true; rw [HES.out.1, HES.out.2.1] at cP; have H3 := hid (And.intro b3 (And.intro om (And.intro fb l3))); clear s3 l3 oa om hne b3 fa fb na9 nb9 ra rb)
            | (go_at_call 36; with_reducible refine cP.mono ?_; rintro e w4 ⟨rfl, s4, g4⟩; have H4 := hid (And.intro s4 g4); clear s4 g4 cP))
          go_ret
          obtain ⟨z1, z2⟩ := HRU.out.2.2.1 (by rw [HES.out.1]; exact HE1.out)
          rw [HX.out.1, HX.out.2.1, HRU.out.1, HRU.out.2.1, z1, z2, HES.out.1, HES.out.2.1]
          exact ⟨rfl, H4.out.1, ((Goes.of_below H2.out.1).trans (Goes.of_below H3.out.1)).trans H4.out.2⟩
      · have HS := hid (commit_same HRL.out.1 (fun e => hrun ⟨HE0.out.symm.trans e.1, HX.out.2.2.1 e.2⟩))
        by_cases e0 : E0 = 0
        · have hm0 : m = 0 := Decidable.byContradiction (fun e => hrun ⟨e0, by omega⟩)
          subst e0 hm0
          clear hrun
          go_wp2_with (go_at_call 35; with_reducible refine cW.mono ?_; rintro e w3 ⟨ao, na, ca, bo, nb, cb, rfl, oa, om, hne, b3⟩)
          go_ret
          rw [HX.out.1, HX.out.2.1, HS.out.1, HS.out.2, HE0.out]
          exact ⟨rfl, H2.out.2.2.1.below b3, (Goes.of_below H2.out.1).trans (Goes.of_below b3)⟩
        · have e0' : (E0 != 0) = true := by simpa using e0
          clear hrun e0
          go_wp2_with (go_at_call 35; with_reducible refine cW.mono ?_; rintro e w3 ⟨ao, na, ca, bo, nb, cb, rfl, oa, om, hne, b3⟩)
          go_ret
          rw [HX.out.1, HX.out.2.1, HS.out.1, HS.out.2, HE0.out]
          exact ⟨rfl, H2.out.2.2.1.below b3, (Goes.of_below H2.out.1).trans (Goes.of_below b3)⟩
end Go.Proofs.YtgiippbjieecmaaGreat
