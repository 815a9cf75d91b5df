/- joistref05.Recover by its contract. -/
import Derived.Test.YtgiippbjieecmaaGreatMgP
import Derived.Test.YtgiippbjieecmaaGreatRefRead
import Derived.Test.YtgiippbjieecmaaGreatRecoverP
namespace Go.Proofs.YtgiippbjieecmaaGreat
set_option maxRecDepth 100000
open Go.RowKit
set_option linter.unusedVariables false

theorem Shows.down {w : World} {G : Nat → Prop} {q : Nat} {S : St} (h : Shows w G q S) : Calls Tryz.prog 21 #[.pointer (some ⟨q, 0, none⟩)] w fun e w' => e = .returned (.bool S.down) ∧ w = w' := by
  obtain ⟨R, h1, h2⟩ := h.dev
  have hc := rdown_any h1
  rw [h2.dn] at hc
  exact hc
theorem Shows.view {w : World} {G : Nat → Prop} {q : Nat} {S : St} (h : Shows w G q S) : Calls Tryz.prog 19 #[.pointer (some ⟨q, 0, none⟩)] w fun e w' => ∃ ao c, e = .returned (.slice ao S.seen.length c) ∧ Own .u8 5 w.heap.size w' ao S.seen.length c S.seen ∧ Below w.heap.size w w' := by
  obtain ⟨R, h1, h2⟩ := h.dev
  have hc := rview_any h1
  rw [h2.se, h2.n, ← h.ok.len] at hc
  exact hc
theorem OwnC.lo {B : Nat} {w : World} {ao : Option Addr} {n cap : Nat} {D : Nat → ChD} (h : OwnC B w ao n cap D) (c : Addr) (hc : ao = some c) : B ≤ c.block := by
  rcases h.row.2 with ⟨hv, _⟩ | ⟨g', cap', cur, hv, hg, hh, _⟩
  · simp [hc] at hv
  · simp only [hc, Value.slice.injEq, Option.some.injEq] at hv
    rw [hv.1]; exact hg
set_option maxHeartbeats 6400000 in
theorem refrecov_up {w : World} {G : Nat → Prop} {q : Nat} {S : St} (h : Shows w G q S) (M F R : Int) (hg : (Lg.mk M F R).Ok) (hdn : S.down = false) :
    Calls Tryz.prog 11 #[.pointer (some ⟨q, 0, none⟩), .agg #[.int .i64 M, .int .i64 F, .int .i64 R]] w fun e w' => e = .returned (.tuple #[.int .i64 (recovN S ⟨M, F, R⟩), .int .i64 (recovE S ⟨M, F, R⟩)]) ∧ Shows w' G q (recovS S ⟨M, F, R⟩) ∧ Goes G w G w' := by
  have hbA := (Below.refl w.heap.size w).alloc (Nat.le_refl _) (.cells #[.int .i64 M, .int .i64 F, .int .i64 R] 24)
  have hL := logAt_new w M F R
  have sA := h.below hbA
  have cD := sA.down
  have hby := h.ok.byt
  have flt := h.bound
  rw [hdn] at cD
  have hLd := hL.below (w' := (w.alloc (.cells #[.int .i64 M, .int .i64 F, .int .i64 R] 24)).drew) (below_drew (Below.refl _ _))
  have sD := sA.below (w' := (w.alloc (.cells #[.int .i64 M, .int .i64 F, .int .i64 R] 24)).drew) (below_drew (Below.refl _ _))
  have cV := sD.view
  have hbD := hbA.trans (below_drew (Below.refl _ _))
  obtain ⟨E, hE⟩ : ∃ E, readE ⟨M, F, R⟩ S.seen = E := ⟨_, rfl⟩
  obtain ⟨L, hLl⟩ : ∃ L, readL ⟨M, F, R⟩ S.seen = L := ⟨_, rfl⟩
  have HE := hid hE
  have HL := hid hLl
  have HLD := hid (And.intro hdn (And.intro flt (And.intro sD hbD)))
  obtain ⟨NN, hNN⟩ : ∃ NN, NN = recovN S ⟨M, F, R⟩ := ⟨_, rfl⟩
  obtain ⟨EE, hEE⟩ : ∃ EE, EE = recovE S ⟨M, F, R⟩ := ⟨_, rfl⟩
  obtain ⟨SS, hSS⟩ : ∃ SS, SS = recovS S ⟨M, F, R⟩ := ⟨_, rfl⟩
  rw [← hNN, ← hEE, ← hSS]
  have HX := hid (And.intro hNN (And.intro hEE hSS))
  clear hNN hEE hSS hE hLl h sA hbA hbD sD hdn
  go_enter Tryz.func11, Tryz.ntmps11
  go_wp2_with (go_at_call 21; with_reducible refine cD.mono ?_; rintro e w' ⟨rfl, rfl⟩)
  refine wp_region_held_drew (S := fun w' => w'.cell? ⟨w.heap.size, 0, none⟩ = some (.int .i64 M) ∧ w'.cell? ⟨w.heap.size, 1, none⟩ = some (.int .i64 F) ∧ w'.cell? ⟨w.heap.size, 2, none⟩ = some (.int .i64 R)) (by kernel_rfl) ⟨hL.c0, hL.c1, hL.c2⟩ (fun hH => ?_)
  refine wpAnyH_take (i := 0) (v := ?_) (List.getElem?_toArray.trans rfl) (by kernel_rfl) (by kernel_rfl) (by kernel_rfl) (fun _ _ _ h => h) (Or.inl ⟨by rfl, ?_⟩) (by assumption) ?_
  rotate_left
  · (intro w hSw; obtain ⟨h1, h2, h3⟩ := hSw; go_simp; try (with_reducible rfl))
  simp only [Act.put, List.setIfInBounds_toArray, List.set_cons_zero, List.set_cons_succ]
  refine wpAnyH_take (i := 1) (v := ?_) (List.getElem?_toArray.trans rfl) (by kernel_rfl) (by kernel_rfl) (by kernel_rfl) (fun _ _ _ h => h) (Or.inl ⟨by rfl, ?_⟩) (by assumption) ?_
  rotate_left
  · (intro w hSw; obtain ⟨h1, h2, h3⟩ := hSw; go_simp; try (with_reducible rfl))
  simp only [Act.put, List.setIfInBounds_toArray, List.set_cons_zero, List.set_cons_succ]
  refine wpAnyH_ready (rs := [2]) (by kernel_rfl) (by simp) ?_
  refine AllReadyH.cons (List.getElem?_toArray.trans rfl) (fun K3 hK3 => ?_) AllReadyH.nil
  go_simp
  refine (cV).mono ?_
  rintro e w2 ⟨gv, cv, rfl, ov, hb2⟩
  have hL2 := hLd.below hb2
  have cR := refread_any M F R gv S.seen.length cv S.seen w2 hg ov.sl hby ov.cap_le.2
  rw [HE.out, HL.out] at cR
  dsimp only
  refine hK3.out _ _ ⟨hL2.c0, hL2.c1, hL2.c2⟩ (fun hHeld3 => ?_)
  clear hK3 K3
  refine wpAnyH_ready (rs := [3]) (by kernel_rfl) (by simp) ?_
  refine AllReadyH.cons (List.getElem?_toArray.trans rfl) (fun K3 hK3 => ?_) AllReadyH.nil
  go_simp
  refine (cR).mono ?_
  rintro e w3 ⟨lo, m, lc, D, rfl, oC, hD, hb3⟩
  have hL3 := hL2.below hb3
  dsimp only
  refine hK3.out _ _ ⟨hL3.c0, hL3.c1, hL3.c2⟩ (fun hHeld3 => ?_)
  clear hK3 K3
  refine wpAnyH_take (i := 4) (v := ?_) (List.getElem?_toArray.trans rfl) (by kernel_rfl) (by kernel_rfl) (by kernel_rfl) (fun _ _ _ h => h) (Or.inl ⟨by rfl, ?_⟩) (by assumption) ?_
  rotate_left
  · (intro w hSw; obtain ⟨h1, h2, h3⟩ := hSw; go_simp; try (with_reducible rfl))
  simp only [Act.put, List.setIfInBounds_toArray, List.set_cons_zero, List.set_cons_succ]
  refine wpAnyH_take (i := 5) (v := ?_) (List.getElem?_toArray.trans rfl) (by kernel_rfl) (by kernel_rfl) (by kernel_rfl) (fun _ _ _ h => h) (Or.inl ⟨by rfl, ?_⟩) (by assumption) ?_
  rotate_left
  · (intro w hSw; obtain ⟨h1, h2, h3⟩ := hSw; go_simp; try (with_reducible rfl))
  simp only [Act.put, List.setIfInBounds_toArray, List.set_cons_zero, List.set_cons_succ]
  refine wpAnyH_take (i := 6) (v := ?_) (List.getElem?_toArray.trans rfl) (by kernel_rfl) (by kernel_rfl) (by kernel_rfl) (fun _ _ _ h => h) (Or.inl ⟨by rfl, ?_⟩) (by assumption) ?_
  rotate_left
  · (intro w hSw; obtain ⟨h1, h2, h3⟩ := hSw; go_simp; try (with_reducible rfl))
  simp only [Act.put, List.setIfInBounds_toArray, List.set_cons_zero, List.set_cons_succ]
  refine wpAnyH_ready (rs := [7]) (by kernel_rfl) (by simp) ?_
  refine AllReadyH.cons (List.getElem?_toArray.trans rfl) (fun K3 hK3 => ?_) AllReadyH.nil
  go_simp
  refine hK3.out _ _ ⟨hL3.c0, hL3.c1, hL3.c2⟩ (fun hHeld3 => ?_)
  clear hK3 K3
  refine wpAnyH_ready (rs := [8]) (by kernel_rfl) (by simp) ?_
  refine AllReadyH.cons (List.getElem?_toArray.trans rfl) (fun K3 hK3 => ?_) AllReadyH.nil
  go_simp
  refine hK3.out _ _ ⟨hL3.c0, hL3.c1, hL3.c2⟩ (fun hHeld3 => ?_)
  clear hK3 K3
  refine wpAnyH_done (by kernel_rfl) ?_ _
  have hb13 := next HLD.out.2.2.2 (next hb2 hb3)
  have sd3 := HLD.out.2.2.1.below (next hb2 hb3)
  have HO := hid (oC.mono (Nat.le_trans HLD.out.2.2.2.size hb2.size))
  have HDD := hid (And.intro hD (And.intro hb13 sd3))
  obtain ⟨z0, z1, z2⟩ := And.intro hL3.c0 (And.intro hL3.c1 hL3.c2)
  have hm9 := oC.fit
  have HL3 := hid hL3
  clear hH hb13 sd3 oC hL2 hL3 hb2 hb3 ov cR cV cD hD hLd hL hby flt
  by_cases hrun : E = 0 ∧ m ≠ 0
  · obtain ⟨rfl, hm0⟩ := hrun
    have hLne : L ≠ [] := fun e => by have := saysN_length D m; rw [HDD.out.1, e] at this; simp at this; omega
    have hR := readL_right (g := ⟨M, F, R⟩) (z := S.seen) (by rw [HL.out]; exact hLne)
    obtain ⟨q1, q2, q3, q4, q5⟩ := hR
    rw [HL.out] at q3 q4
    have hBr : recB S ⟨M, F, R⟩ = true := by unfold recB; rw [HLD.out.1, HE.out, HL.out]; simp [hLne]
    obtain ⟨r1, r2, r3⟩ := recov_runs HLD.out.1 hBr
    rw [HL.out] at r1 r2 r3
    have HRR := hid (And.intro r1 (And.intro r2 r3))
    have g1 := q1.m0
    have g2 := q1.m1
    simp only at g1 g2
    clear r1 r2 r3 q1 q4 q5 hBr hLne
    obtain ⟨mk, rfl⟩ : ∃ mk : Nat, M = mk := ⟨M.toNat, by omega⟩
    have hmk : mk ≤ 4096 := by omega
    have hln : ∀ i, i < m → 0 ≤ (D i).line ∧ (D i).line ≤ 4096 := fun i hi => by
      have hmem : (D i).says ∈ saysN D m := List.mem_of_getElem? (saysN_get D hi)
      rw [HDD.out.1] at hmem
      have := rightL_mem q3 hmem
      exact ⟨this.1, by have h3 := this.2.1; have : (D i).says.1 = (D i).line := rfl; omega⟩
    have cN := ends_any (lc := lc) HDD.out.2.2 mk hmk F R lo m D HO.out.chs hln (fun _ c hc hg => by
        have h1 := HO.out.lo c hc
        have h2 := HLD.out.2.1 _ hg
        omega) (fun i hi _ c hc hg => by
        have h1 := (HO.out.own i hi).1.bound c hc
        have h2 := HLD.out.2.1 _ hg
        omega)
    have hm0' : ((m : Int) == 0) = false := by simp; omega
    clear g1 g2 q2 q3 hm0 hln
    have HMM : Hid (saysN D m = L ∧ (saysN D m).length = m) := ⟨HDD.out.1, saysN_length D m⟩
    obtain ⟨X, hX⟩ : ∃ X, X = runE S (finS mk (saysN D m)) := ⟨_, rfl⟩
    rw [← hX] at cN
    have HXX := hid hX
    by_cases hX0 : X = 0
    · subst hX0
      clear hX
      go_wp2_with (first
        | (go_at_call 37; with_reducible refine cN.mono ?_; rintro e wC ⟨rfl, sC, gC⟩))
      go_ret2
      refine ⟨?_, ?_, (Goes.of_below HDD.out.2.1).trans gC⟩
      · rw [HX.out.1, HX.out.2.1, HRR.out.1, HRR.out.2.1, Int.toNat_natCast, ← HMM.out.1, ← HXX.out, if_pos rfl, HMM.out.2]; rfl
      · rw [HX.out.2.2, HRR.out.2.2, Int.toNat_natCast, ← HMM.out.1]; exact sC
    · have hX0' : (X != 0) = true := by simpa using hX0
      have HX0 := hid hX0
      clear hX hX0
      go_wp2_with (first
        | (go_at_call 37; with_reducible refine cN.mono ?_; rintro e wC ⟨rfl, sC, gC⟩))
      go_ret2
      refine ⟨?_, ?_, (Goes.of_below HDD.out.2.1).trans gC⟩
      · rw [HX.out.1, HX.out.2.1, HRR.out.1, HRR.out.2.1, Int.toNat_natCast, ← HMM.out.1, ← HXX.out, if_neg HX0.out]; rfl
      · rw [HX.out.2.2, HRR.out.2.2, Int.toNat_natCast, ← HMM.out.1]; exact sC
  · have hBr : recB S ⟨M, F, R⟩ = false := by
      unfold recB
      rw [HLD.out.1, HE.out, HL.out]
      have hl : L = [] ↔ m = 0 := by
        have := saysN_length D m
        rw [HDD.out.1] at this
        constructor
        · intro e; rw [e] at this; simpa using this.symm
        · intro e; exact List.eq_nil_of_length_eq_zero (by omega)
      by_cases e0 : E = 0
      · have : m = 0 := Decidable.byContradiction (fun e => hrun ⟨e0, e⟩)
        rw [hl.2 this]; simp
      · simp [e0]
    obtain ⟨r1, r2, r3⟩ := recov_idle HLD.out.1 hBr
    rw [HE.out] at r1
    have HRR := hid (And.intro r1 (And.intro r2 r3))
    clear r1 r2 r3 hBr
    by_cases e0 : E = 0
    · have hm0 : m = 0 := Decidable.byContradiction (fun e => hrun ⟨e0, e⟩)
      subst e0 hm0
      clear hrun
      go_wp2
      go_ret2
      refine ⟨?_, ?_, Goes.of_below HDD.out.2.1⟩
      · rw [HX.out.1, HX.out.2.1, HRR.out.1, HRR.out.2.1]; rfl
      · rw [HX.out.2.2, HRR.out.2.2]; exact HDD.out.2.2
    · have e0' : (E != 0) = true := by simpa using e0
      clear hrun e0
      go_wp2
      go_ret2
      refine ⟨?_, ?_, Goes.of_below HDD.out.2.1⟩
      · rw [HX.out.1, HX.out.2.1, HRR.out.1, HRR.out.2.1]; rfl
      · rw [HX.out.2.2, HRR.out.2.2]; exact HDD.out.2.2
theorem refrecov_any {w : World} {G : Nat → Prop} {q : Nat} {S : St} (h : Shows w G q S) (M F R : Int) (hg : (Lg.mk M F R).Ok) :
    Calls Tryz.prog 11 #[.pointer (some ⟨q, 0, none⟩), .agg #[.int .i64 M, .int .i64 F, .int .i64 R]] w fun e w' => e = .returned (.tuple #[.int .i64 (recovN S ⟨M, F, R⟩), .int .i64 (recovE S ⟨M, F, R⟩)]) ∧ Shows w' G q (recovS S ⟨M, F, R⟩) ∧ Goes G w G w' := by
  cases hdn : S.down with
  | false => exact refrecov_up h M F R hg hdn
  | true =>
    obtain ⟨e1, e2, e3⟩ := recov_down (g := ⟨M, F, R⟩) hdn
    rw [e1, e2, e3]
    have hbA := (Below.refl w.heap.size w).alloc (Nat.le_refl _) (.cells #[.int .i64 M, .int .i64 F, .int .i64 R] 24)
    have sA := h.below hbA
    have cD := sA.down
    rw [hdn] at cD
    clear e1 e2 e3 hdn
    go_enter Tryz.func11, Tryz.ntmps11
    go_wp2_with (go_at_call 21; with_reducible refine cD.mono ?_; rintro e w' ⟨rfl, rfl⟩)
    go_ret2
    exact ⟨rfl, sA, Goes.of_below hbA⟩
end Go.Proofs.YtgiippbjieecmaaGreat
