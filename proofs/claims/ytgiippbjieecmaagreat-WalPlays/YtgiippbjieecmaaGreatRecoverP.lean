/- wal.Recover by its contract. -/
import Derived.Test.YtgiippbjieecmaaGreatMgC
namespace Go.Proofs.YtgiippbjieecmaaGreat
set_option maxRecDepth 100000
open Go.RowKit
set_option linter.unusedVariables false

def recB (S : St) (g : Lg) : Bool := !S.down && (decide (readE g S.seen = 0) && decide (readL g S.seen ≠ []))
def recovE (S : St) (g : Lg) : Int := if S.down = true then 5 else if recB S g = true then runE S (finS g.mark.toNat (readL g S.seen)) else readE g S.seen
def recovS (S : St) (g : Lg) : St := if recB S g = true then runS S (finS g.mark.toNat (readL g S.seen)) else S
def recovN (S : St) (g : Lg) : Int := if recB S g = true ∧ runE S (finS g.mark.toNat (readL g S.seen)) = 0 then (readL g S.seen).length else 0
theorem recov_down {S : St} {g : Lg} (h : S.down = true) : recovE S g = 5 ∧ recovN S g = 0 ∧ recovS S g = S := by
  have hb : recB S g = false := by unfold recB; rw [h]; rfl
  unfold recovE recovN recovS
  rw [if_pos h, hb]
  exact ⟨rfl, if_neg (by simp), if_neg (by simp)⟩
theorem recov_idle {S : St} {g : Lg} (h : S.down = false) (hb : recB S g = false) : recovE S g = readE g S.seen ∧ recovN S g = 0 ∧ recovS S g = S := by
  unfold recovE recovN recovS
  rw [if_neg (by rw [h]; simp), hb]
  exact ⟨if_neg (by simp), if_neg (by simp), if_neg (by simp)⟩
theorem recov_runs {S : St} {g : Lg} (h : S.down = false) (hb : recB S g = true) : recovE S g = runE S (finS g.mark.toNat (readL g S.seen)) ∧ recovN S g = (if runE S (finS g.mark.toNat (readL g S.seen)) = 0 then ((readL g S.seen).length : Int) else 0) ∧ recovS S g = runS S (finS g.mark.toNat (readL g S.seen)) := by
  unfold recovE recovN recovS
  rw [if_neg (by rw [h]; simp), if_pos hb, if_pos hb]
  refine ⟨rfl, ?_, rfl⟩
  by_cases e : runE S (finS g.mark.toNat (readL g S.seen)) = 0
  · rw [if_pos ⟨hb, e⟩, if_pos e]
  · rw [if_neg (fun h => e h.2), if_neg e]
/-- What is read is right. -/
theorem readL_right {g : Lg} {z : List Int} (h : readL g z ≠ []) : RightG g ((z.length / 64 : Nat) : Int) ∧ z.length / 64 ≤ 4096 ∧ rightL ((z.length / 64 : Nat) : Int) (readL g z) = true ∧ writeE g (readL g z) = 0 ∧ readE g z = 0 := by
  unfold readL at h ⊢
  by_cases hc : imgOk g z = true ∧ allZ (mkAt g z) = false ∧ hasM g z = true ∧ readOk g z = true
  · rw [if_pos hc]
    obtain ⟨c1, c2, c3, c4⟩ := hc
    have e := (read_good c1 c2 c3 c4).1
    unfold imgOk at c1
    rw [Bool.and_eq_true, decide_eq_true_eq] at c1
    unfold readOk at c4
    simp only [Bool.and_eq_true] at c4
    have hw : writeE g (chgsN (rsAt g z) (cntAt g z)) = 0 ∧ _ := of_decide_eq_true c4.2.2
    exact ⟨rightG_iff.1 c1.2, c1.1.2, c4.2.1, hw.1, e⟩
  · rw [if_neg hc] at h
    exact absurd rfl h

theorem recov_go {w w3 : World} {F : Nat → Prop} {p : Nat} {S : St} {mk fi : Nat} {R : Int} {lo : Option Addr} {m lc : Nat} {D : Nat → ChD} (hd : Dev w3 F p S) (hl : LogAt w3 w.heap.size mk fi R) (oC : OwnC w.heap.size w3 lo m lc D) (hb : Below w.heap.size w w3) (flt : ∀ k, F k → k < w.heap.size) (hmk : mk ≤ 4096) (hr : rightL 4096 (saysN D m) = true) :
    Hid (Below w.heap.size w w3 ∧ Dev w3 F p S ∧ m ≤ 4096) ∧ (Calls Tryz.prog 30 #[.pointer (some ⟨w3.heap.size, 0, none⟩), .agg #[.int .i64 (mk : Int), .int .i64 (fi : Int), .int .i64 R], .slice lo m lc] (w3.alloc (.cells #[.pointer (some ⟨p, 0, none⟩), .slice none 0 0] 64)) fun e w' => e = .returned (.tuple #[]) ∧ ∃ K' ro' rc' fs', StepsAt w' F K' w3.heap.size p ro' (0 + 2 * m + 4) rc' fs' ([] ++ finS mk (saysN D m)) ∧ Grew (w3.alloc (.cells #[.pointer (some ⟨p, 0, none⟩), .slice none 0 0] 64)) w3.heap.size none w' ro') ∧
    (w3.alloc (.cells #[.pointer (some ⟨p, 0, none⟩), .slice none 0 0] 64)).cell? ⟨w.heap.size, 0, none⟩ = some (.int .i64 (mk : Int)) ∧ (w3.alloc (.cells #[.pointer (some ⟨p, 0, none⟩), .slice none 0 0] 64)).cell? ⟨w.heap.size, 1, none⟩ = some (.int .i64 (fi : Int)) ∧ (w3.alloc (.cells #[.pointer (some ⟨p, 0, none⟩), .slice none 0 0] 64)).cell? ⟨w.heap.size, 2, none⟩ = some (.int .i64 R) := by
  have hb8 : Below w3.heap.size w3 (w3.alloc (.cells #[.pointer (some ⟨p, 0, none⟩), .slice none 0 0] 64)) := (Below.refl _ _).alloc (Nat.le_refl _) _
  have hl8 := hl.below hb8
  have hm4 : m ≤ 4096 := by have := rightL_len hr; rw [saysN_length] at this; omega
  exact ⟨⟨hb, hd, hm4⟩, finish_any (steps_new hd) mk fi R hmk lo m lc D rfl oC.chs hb8 (fun i hi => by
      have t := rightL_mem hr (says_mem D hi)
      exact ⟨t.1, Int.le_of_lt t.2.1⟩) (fun i hi hp c hc hf => by
      have h1 := (own_at (oC.own i hi).1 hc).1
      have h2 := flt _ hf
      omega) hm4 (by omega), hl8.c0, hl8.c1, hl8.c2⟩
theorem recov_last {w w3 wB : World} {F K : Nat → Prop} {p : Nat} {S : St} {mk : Nat} {m n rc : Nat} {l : List Chg} {roB : Option Addr} {fs : List Value} (hc : Below w.heap.size w w3 ∧ Dev w3 F p S ∧ m ≤ 4096) (h : StepsAt wB F K w3.heap.size p roB n rc fs ([] ++ finS mk l)) (g : Grew (w3.alloc (.cells #[.pointer (some ⟨p, 0, none⟩), .slice none 0 0] 64)) w3.heap.size none wB roB) (hn : n = 0 + 2 * m + 4 := by rfl) :
    Hid (Goes F w F wB) ∧ Calls Tryz.prog 31 #[.pointer (some ⟨w3.heap.size, 0, none⟩)] wB fun e w' => e = .returned (.int .i64 (runE S (finS mk l))) ∧ ∃ F', Dev w' F' p (runS S (finS mk l)) ∧ Goes F wB F' w' := by
  obtain ⟨hb, hd, hm⟩ := hc
  have hb8 : Below w3.heap.size w3 (w3.alloc (.cells #[.pointer (some ⟨p, 0, none⟩), .slice none 0 0] 64)) := (Below.refl _ _).alloc (Nat.le_refl _) _
  have hbB : Below w3.heap.size w3 wB := hb8.trans (g.below (steps_new hd))
  rw [List.nil_append] at h
  exact ⟨Goes.of_below (next hb hbB), srun_any h (hd.below hbB) (by omega)⟩
set_option maxHeartbeats 6400000 in
theorem recover_up {w : World} {F : Nat → Prop} {p : Nat} {S : St} (hd : Dev w F p S) (M F1 R : Int) (hg : (Lg.mk M F1 R).Ok) (hdn : S.down = false) :
    Calls Tryz.prog 10 #[.pointer (some ⟨p, 0, none⟩), .agg #[.int .i64 M, .int .i64 F1, .int .i64 R]] w fun e w' => e = .returned (.tuple #[.int .i64 (recovN S ⟨M, F1, R⟩), .int .i64 (recovE S ⟨M, F1, R⟩)]) ∧ ∃ F', Dev w' F' p (recovS S ⟨M, F1, R⟩) ∧ Goes F w F' w' := by
  have hbA := (Below.refl w.heap.size w).alloc (Nat.le_refl _) (.cells #[.int .i64 M, .int .i64 F1, .int .i64 R] 24)
  have hL := logAt_new w M F1 R
  have hdA := hd.below hbA
  have cD := down_any hdA
  have hby := hd.ok.byt
  have flt := hd.bound
  rw [hdn] at cD
  have hLd := hL.below (below_drew (Below.refl _ _))
  have hdD := hdA.below (below_drew (Below.refl _ _))
  have cV := view_any hdD
  have hbD := below_drew hbA
  obtain ⟨E, hE⟩ : ∃ E, readE ⟨M, F1, R⟩ S.seen = E := ⟨_, rfl⟩
  obtain ⟨L, hLl⟩ : ∃ L, readL ⟨M, F1, R⟩ S.seen = L := ⟨_, rfl⟩
  have HE := hid hE
  have HL := hid hLl
  have HLD := hid (And.intro hdn (And.intro flt (And.intro hdD hbD)))
  obtain ⟨NN, hNN⟩ : ∃ NN, NN = recovN S ⟨M, F1, R⟩ := ⟨_, rfl⟩
  obtain ⟨EE, hEE⟩ : ∃ EE, EE = recovE S ⟨M, F1, R⟩ := ⟨_, rfl⟩
  obtain ⟨SS, hSS⟩ : ∃ SS, SS = recovS S ⟨M, F1, R⟩ := ⟨_, rfl⟩
  rw [← hNN, ← hEE, ← hSS]
  have HX := hid (And.intro hNN (And.intro hEE hSS))
  clear hNN hEE hSS hE hLl hd hdA hbA hbD hdD hdn
  go_enter Tryz.func10, Tryz.ntmps10
  go_wp2_with (go_at_call 20; with_reducible refine cD.mono ?_; rintro e w' ⟨rfl, rfl⟩)
  refine wp_region_held_drew (S := fun w' => w'.cell? ⟨w.heap.size, 0, none⟩ = some (.int .i64 M) ∧ w'.cell? ⟨w.heap.size, 1, none⟩ = some (.int .i64 F1) ∧ w'.cell? ⟨w.heap.size, 2, none⟩ = some (.int .i64 R)) (by kernel_rfl) ⟨hL.c0, hL.c1, hL.c2⟩ (fun hH => ?_)
  refine wpAnyH_take (i := 0) (v := ?_) (List.getElem?_toArray.trans rfl) (by kernel_rfl) (by kernel_rfl) (by kernel_rfl) (fun _ _ _ h => h) (Or.inl ⟨by rfl, ?_⟩) (by assumption) ?_
  rotate_left
  · (intro w hSw; obtain ⟨h1, h2, h3⟩ := hSw; go_simp; try (with_reducible rfl))
  simp only [Act.put, List.setIfInBounds_toArray, List.set_cons_zero, List.set_cons_succ]
  refine wpAnyH_take (i := 1) (v := ?_) (List.getElem?_toArray.trans rfl) (by kernel_rfl) (by kernel_rfl) (by kernel_rfl) (fun _ _ _ h => h) (Or.inl ⟨by rfl, ?_⟩) (by assumption) ?_
  rotate_left
  · (intro w hSw; obtain ⟨h1, h2, h3⟩ := hSw; go_simp; try (with_reducible rfl))
  simp only [Act.put, List.setIfInBounds_toArray, List.set_cons_zero, List.set_cons_succ]
  refine wpAnyH_ready (rs := [2]) (by kernel_rfl) (by simp) ?_
  refine AllReadyH.cons (List.getElem?_toArray.trans rfl) (fun K3 hK3 => ?_) AllReadyH.nil
  go_simp
  refine (cV).mono ?_
  rintro e w2 ⟨gv, cv, rfl, ov, hb2⟩
  have hL2 := hLd.below hb2
  have cR := read_any M F1 R (some ⟨gv, 0, none⟩) S.seen.length cv S.seen w2 hg ov.sl hby ov.cap_le.2
  rw [HE.out, HL.out] at cR
  dsimp only
  refine hK3.out _ _ ⟨hL2.c0, hL2.c1, hL2.c2⟩ (fun hH2 => ?_)
  clear hK3 K3
  refine wpAnyH_ready (rs := [3]) (by kernel_rfl) (by simp) ?_
  refine AllReadyH.cons (List.getElem?_toArray.trans rfl) (fun K3 hK3 => ?_) AllReadyH.nil
  go_simp
  refine (cR).mono ?_
  rintro e w3 ⟨lo, m, lc, D, rfl, oC, hD, hb3⟩
  have hL3 := hL2.below hb3
  dsimp only
  refine hK3.out _ _ ⟨hL3.c0, hL3.c1, hL3.c2⟩ (fun hH3 => ?_)
  clear hK3 K3
  refine wpAnyH_take (i := 4) (v := ?_) (List.getElem?_toArray.trans rfl) (by kernel_rfl) (by kernel_rfl) (by kernel_rfl) (fun _ _ _ h => h) (Or.inl ⟨by rfl, ?_⟩) (by assumption) ?_
  rotate_left
  · (intro w hSw; obtain ⟨h1, h2, h3⟩ := hSw; go_simp; try (with_reducible rfl))
  simp only [Act.put, List.setIfInBounds_toArray, List.set_cons_zero, List.set_cons_succ]
  refine wpAnyH_take (i := 5) (v := ?_) (List.getElem?_toArray.trans rfl) (by kernel_rfl) (by kernel_rfl) (by kernel_rfl) (fun _ _ _ h => h) (Or.inl ⟨by rfl, ?_⟩) (by assumption) ?_
  rotate_left
  · (intro w hSw; obtain ⟨h1, h2, h3⟩ := hSw; go_simp; try (with_reducible rfl))
  simp only [Act.put, List.setIfInBounds_toArray, List.set_cons_zero, List.set_cons_succ]
  refine wpAnyH_take (i := 6) (v := ?_) (List.getElem?_toArray.trans rfl) (by kernel_rfl) (by kernel_rfl) (by kernel_rfl) (fun _ _ _ h => h) (Or.inl ⟨by rfl, ?_⟩) (by assumption) ?_
  rotate_left
  · (intro w hSw; obtain ⟨h1, h2, h3⟩ := hSw; go_simp; try (with_reducible rfl))
  simp only [Act.put, List.setIfInBounds_toArray, List.set_cons_zero, List.set_cons_succ]
  refine wpAnyH_ready (rs := [7]) (by kernel_rfl) (by simp) ?_
  refine AllReadyH.cons (List.getElem?_toArray.trans rfl) (fun K3 hK3 => ?_) AllReadyH.nil
  go_simp
  refine hK3.out _ _ ⟨hL3.c0, hL3.c1, hL3.c2⟩ (fun hHeld7 => ?_)
  clear hK3 K3
  refine wpAnyH_ready (rs := [8]) (by kernel_rfl) (by simp) ?_
  refine AllReadyH.cons (List.getElem?_toArray.trans rfl) (fun K3 hK3 => ?_) AllReadyH.nil
  go_simp
  refine hK3.out _ _ ⟨hL3.c0, hL3.c1, hL3.c2⟩ (fun hHeld8 => ?_)
  clear hK3 K3
  refine wpAnyH_done (by kernel_rfl) ?_ _
  have hb13 := next HLD.out.2.2.2 (next hb2 hb3)
  have hd3 := HLD.out.2.2.1.below (next hb2 hb3)
  have HO := hid (oC.mono (Nat.le_trans HLD.out.2.2.2.size hb2.size))
  have HDD := hid (And.intro hD (And.intro hb13 hd3))
  obtain ⟨z0, z1, z2⟩ := And.intro hL3.c0 (And.intro hL3.c1 hL3.c2)
  have hm9 := oC.fit
  have HL3 := hid hL3
  clear hH hH2 hH3 hHeld7 hHeld8 hb13 hd3 oC hL2 hL3 hb2 hb3 ov cR cV cD hD hLd hL hby flt
  by_cases hrun : E = 0 ∧ m ≠ 0
  · obtain ⟨rfl, hm0⟩ := hrun
    have hLne : L ≠ [] := fun e => by have := saysN_length D m; rw [HDD.out.1, e] at this; simp at this; omega
    have hR := readL_right (g := ⟨M, F1, R⟩) (z := S.seen) (by rw [HL.out]; exact hLne)
    obtain ⟨q1, q2, q3, q4, q5⟩ := hR
    rw [HL.out] at q3 q4
    have hBr : recB S ⟨M, F1, R⟩ = true := by unfold recB; rw [HLD.out.1, HE.out, HL.out]; simp [hLne]
    obtain ⟨r1, r2, r3⟩ := recov_runs HLD.out.1 hBr
    rw [HL.out] at r1 r2 r3
    have HRR := hid (And.intro r1 (And.intro r2 r3))
    have g1 := q1.m0
    have g2 := q1.m1
    have g3 := q1.f0
    simp only at g1 g2 g3
    clear r1 r2 r3 q1 q4 q5 hBr hLne
    obtain ⟨mk, rfl⟩ : ∃ mk : Nat, M = mk := ⟨M.toNat, by omega⟩
    obtain ⟨fi, rfl⟩ : ∃ fi : Nat, F1 = fi := ⟨F1.toNat, by omega⟩
    have hmk : mk ≤ 4096 := by omega
    have hq4 : rightL 4096 (saysN D m) = true := by rw [HDD.out.1]; exact rightL_mono q3 (by omega)
    obtain ⟨HQ, cF, y0, y1, y2⟩ := recov_go (lc := lc) HDD.out.2.2 HL3.out HO.out HDD.out.2.1 HLD.out.2.1 hmk hq4
    have hm0' : ((m : Int) == 0) = false := by simp; omega
    clear g1 g2 g3 q2 q3 hm0
    have HMM : Hid (saysN D m = L ∧ (saysN D m).length = m) := ⟨HDD.out.1, saysN_length D m⟩
    obtain ⟨X, hX⟩ : ∃ X, X = runE S (finS mk (saysN D m)) := ⟨_, rfl⟩
    have HXX := hid hX
    by_cases hX0 : X = 0
    · subst hX0
      go_wp2_with (first
        | (go_at_call 30; with_reducible refine cF.mono ?_; rintro e wB ⟨rfl, KB, roB, rcB, fsB, hB, GB⟩; obtain ⟨HGB, cRn⟩ := recov_last HQ.out hB GB; rw [← HXX.out] at cRn)
        | (go_at_call 31; with_reducible refine cRn.mono ?_; rintro e wC ⟨rfl, F', dC, gC⟩))
      go_ret2
      refine ⟨?_, F', ?_, HGB.out.trans gC⟩
      · rw [HX.out.1, HX.out.2.1, HRR.out.1, HRR.out.2.1, Int.toNat_natCast, ← HMM.out.1, ← HXX.out, if_pos rfl, HMM.out.2]; rfl
      · rw [HX.out.2.2, HRR.out.2.2, Int.toNat_natCast, ← HMM.out.1]; exact dC
    · have hX0' : (X != 0) = true := by simpa using hX0
      have HX0 := hid hX0
      clear hX hX0
      go_wp2_with (first
        | (go_at_call 30; with_reducible refine cF.mono ?_; rintro e wB ⟨rfl, KB, roB, rcB, fsB, hB, GB⟩; obtain ⟨HGB, cRn⟩ := recov_last HQ.out hB GB; rw [← HXX.out] at cRn)
        | (go_at_call 31; with_reducible refine cRn.mono ?_; rintro e wC ⟨rfl, F', dC, gC⟩))
      go_ret2
      refine ⟨?_, F', ?_, HGB.out.trans gC⟩
      · rw [HX.out.1, HX.out.2.1, HRR.out.1, HRR.out.2.1, Int.toNat_natCast, ← HMM.out.1, ← HXX.out, if_neg HX0.out]; rfl
      · rw [HX.out.2.2, HRR.out.2.2, Int.toNat_natCast, ← HMM.out.1]; exact dC
  · have hBr : recB S ⟨M, F1, R⟩ = false := by
      unfold recB
      rw [HLD.out.1, HE.out, HL.out]
      have hl : L = [] ↔ m = 0 := by
        have := saysN_length D m
        rw [HDD.out.1] at this
        constructor
        · intro e; rw [e] at this; simpa using this.symm
        · intro e; exact List.eq_nil_of_length_eq_zero (by omega)
      by_cases e0 : E = 0
      · have : m = 0 := Decidable.byContradiction (fun e => hrun ⟨e0, e⟩)
        rw [hl.2 this]; simp
      · simp [e0]
    obtain ⟨r1, r2, r3⟩ := recov_idle HLD.out.1 hBr
    rw [HE.out] at r1
    have HRR := hid (And.intro r1 (And.intro r2 r3))
    clear r1 r2 r3 hBr
    by_cases e0 : E = 0
    · have hm0 : m = 0 := Decidable.byContradiction (fun e => hrun ⟨e0, e⟩)
      subst e0 hm0
      clear hrun
      go_wp2
      go_ret2
      refine ⟨?_, F, ?_, Goes.of_below HDD.out.2.1⟩
      · rw [HX.out.1, HX.out.2.1, HRR.out.1, HRR.out.2.1]; rfl
      · rw [HX.out.2.2, HRR.out.2.2]; exact HDD.out.2.2
    · have e0' : (E != 0) = true := by simpa using e0
      clear hrun e0
      go_wp2
      go_ret2
      refine ⟨?_, F, ?_, Goes.of_below HDD.out.2.1⟩
      · rw [HX.out.1, HX.out.2.1, HRR.out.1, HRR.out.2.1]; rfl
      · rw [HX.out.2.2, HRR.out.2.2]; exact HDD.out.2.2
set_option maxHeartbeats 6400000 in
theorem recover_any {w : World} {F : Nat → Prop} {p : Nat} {S : St} (hd : Dev w F p S) (M F1 R : Int) (hg : (Lg.mk M F1 R).Ok) :
    Calls Tryz.prog 10 #[.pointer (some ⟨p, 0, none⟩), .agg #[.int .i64 M, .int .i64 F1, .int .i64 R]] w fun e w' => e = .returned (.tuple #[.int .i64 (recovN S ⟨M, F1, R⟩), .int .i64 (recovE S ⟨M, F1, R⟩)]) ∧ ∃ F', Dev w' F' p (recovS S ⟨M, F1, R⟩) ∧ Goes F w F' w' := by
  have hbA := (Below.refl w.heap.size w).alloc (Nat.le_refl _) (.cells #[.int .i64 M, .int .i64 F1, .int .i64 R] 24)
  have hL := logAt_new w M F1 R
  have hdA := hd.below hbA
  have cD := down_any hdA
  have hby := hd.ok.byt
  have flt := hd.bound
  cases hdn : S.down with
  | true =>
    rw [hdn] at cD
    obtain ⟨e1, e2, e3⟩ := recov_down (g := ⟨M, F1, R⟩) hdn
    rw [e1, e2, e3]
    clear e1 e2 e3
    go_enter Tryz.func10, Tryz.ntmps10
    go_wp2_with (go_at_call 20; with_reducible refine cD.mono ?_; rintro e w' ⟨rfl, rfl⟩)
    go_ret2
    exact ⟨rfl, F, hdA, Goes.of_below hbA⟩
  | false =>
    rw [hdn] at cD
    exact recover_up hd M F1 R hg hdn
end Go.Proofs.YtgiippbjieecmaaGreat
