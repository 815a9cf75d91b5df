/- CommitP · SmallWalM · SmallWal: these texts, one behind another. -/
import Derived.Test.YtgiippbjieecmaaGreatMgG
import Derived.Deep.DeepCutAuto
import Derived.OwnWalk
/- wal.Commit by its contract. -/
namespace Go.Proofs.YtgiippbjieecmaaGreat
set_option maxRecDepth 100000
open Go.RowKit
set_option linter.unusedVariables false

def comS (g : Lg) (l : List Chg) : List Stp := (keepS g.first.toNat (recsL l) ++ keepS g.mark.toNat (markL (recsL l))) ++ finS g.mark.toNat l
/-- May there be steps? -/
def comB (n : Nat) (g : Lg) (l : List Chg) : Bool := rightG g n && rightL n l
def commitE (S : St) (g : Lg) (l : List Chg) : Int := if comB S.n g l = true then (if writeE g l = 0 ∧ l ≠ [] then runE S (comS g l) else writeE g l) else 1
def commitS (S : St) (g : Lg) (l : List Chg) : St := if comB S.n g l = true ∧ writeE g l = 0 ∧ l ≠ [] then runS S (comS g l) else S
theorem commit_arg {S : St} {g : Lg} {l : List Chg} (h : comB S.n g l = false) : commitE S g l = 1 ∧ commitS S g l = S := by
  unfold commitE commitS
  rw [h]
  exact ⟨if_neg (by simp), if_neg (by simp)⟩
theorem commit_same {S : St} {g : Lg} {l : List Chg} (h : comB S.n g l = true) (hw : ¬ (writeE g l = 0 ∧ l ≠ [])) : commitE S g l = writeE g l ∧ commitS S g l = S := by
  unfold commitE commitS
  rw [if_pos h, if_neg hw, if_neg (fun e => hw e.2)]
  exact ⟨rfl, rfl⟩
theorem commit_runs {S : St} {g : Lg} {l : List Chg} (h : comB S.n g l = true) (h1 : writeE g l = 0) (h2 : l ≠ []) : commitE S g l = runE S (comS g l) ∧ commitS S g l = runS S (comS g l) := by
  unfold commitE commitS
  rw [if_pos h, if_pos ⟨h1, h2⟩, if_pos ⟨h, h1, h2⟩]
  exact ⟨rfl, rfl⟩

theorem steps_new {w : World} {F : Nat → Prop} {p : Nat} {S : St} (hd : Dev w F p S) : StepsAt (w.alloc (.cells #[.pointer (some ⟨p, 0, none⟩), .slice none 0 0] 64)) F (fun _ => False) w.heap.size p none 0 0 [] [] :=
  ⟨heap_alloc_new w _, World.ownsRow_nil _ _ _ _, rfl, rfl, (fun i x v h => by simp at h), (fun v h => by cases h), fun _ h => h.elim, hd.bound⟩
theorem logCells (w : World) (M F R : Int) : (w.alloc (.cells #[.int .i64 M, .int .i64 F, .int .i64 R] 24)).cell? ⟨w.heap.size, 0, none⟩ = some (.int .i64 M) ∧ (w.alloc (.cells #[.int .i64 M, .int .i64 F, .int .i64 R] 24)).cell? ⟨w.heap.size, 1, none⟩ = some (.int .i64 F) ∧ (w.alloc (.cells #[.int .i64 M, .int .i64 F, .int .i64 R] 24)).cell? ⟨w.heap.size, 2, none⟩ = some (.int .i64 R) := by simp
/-- A log's cells. -/
structure LogAt (w : World) (b : Nat) (M F R : Int) : Prop where
  lt : b < w.heap.size
  c0 : w.cell? ⟨b, 0, none⟩ = some (.int .i64 M)
  c1 : w.cell? ⟨b, 1, none⟩ = some (.int .i64 F)
  c2 : w.cell? ⟨b, 2, none⟩ = some (.int .i64 R)
theorem logAt_new (w : World) (M F R : Int) : LogAt (w.alloc (.cells #[.int .i64 M, .int .i64 F, .int .i64 R] 24)) w.heap.size M F R := ⟨by simp, by simp, by simp, by simp⟩
theorem LogAt.upto {w w' : World} {b B : Nat} {M F R : Int} (h : LogAt w b M F R) (hb : Below B w w') (hl : b < B) : LogAt w' b M F R :=
  ⟨Nat.lt_of_lt_of_le h.lt hb.size, (hb.cell (p := ⟨b, 0, none⟩) hl).trans h.c0, (hb.cell (p := ⟨b, 1, none⟩) hl).trans h.c1, (hb.cell (p := ⟨b, 2, none⟩) hl).trans h.c2⟩
theorem LogAt.below {w w' : World} {b : Nat} {M F R : Int} (h : LogAt w b M F R) (hb : Below w.heap.size w w') : LogAt w' b M F R := h.upto hb h.lt

set_option maxHeartbeats 3200000 in
theorem commit_bad {w : World} {F : Nat → Prop} {p : Nat} {S : St} (hd : Dev w F p S) (M F1 R : Int) (lo : Option Addr) (m lc : Nat) (D : Nat → ChD) (hg : (Lg.mk M F1 R).Ok) (h : Chs w lo m D) (hB : comB S.n ⟨M, F1, R⟩ (saysN D m) = false) :
    Calls Tryz.prog 8 #[.pointer (some ⟨p, 0, none⟩), .agg #[.int .i64 M, .int .i64 F1, .int .i64 R], .slice lo m lc] w fun e w' => e = .returned (.int .i64 1) ∧ Below w.heap.size w w' := by
  have hbA := (Below.refl w.heap.size w).alloc (Nat.le_refl _) (.cells #[.int .i64 M, .int .i64 F1, .int .i64 R] 24)
  have hbD := below_drew hbA
  have hLg := logAt_new w M F1 R
  obtain ⟨c0, c1, c2⟩ := logCells w M F1 R
  have hdD := hd.below hbD
  have hN : Rg (S.n : Int) := by have := hd.ok.n1; unfold Rg; omega
  have cL := lines_any hdD
  have cR := wright_any M F1 R S.n (w.alloc (.cells #[.int .i64 M, .int .i64 F1, .int .i64 R] 24)).drew hg hN
  have eB : rightB S.n D m = rightL S.n (saysN D m) := rightB_eq _ _ _
  have hkD := h.below hbD
  have HD := hid hdD
  have HK := hid hkD
  have hb1 : Below w.heap.size w (w.alloc (.cells #[.int .i64 M, .int .i64 F1, .int .i64 R] 24)).drew := hbD
  clear hd h hkD hdD hbA
  cases h1 : rightG ⟨M, F1, R⟩ S.n with
  | false =>
    rw [h1] at cR
    clear hB eB
    go_enter Tryz.func8, Tryz.ntmps8
    go_upto_region 1 with fail
    refine wp_region_held_drew (S := fun w' => w'.cell? ⟨w.heap.size, 0, none⟩ = some (.int .i64 M) ∧ w'.cell? ⟨w.heap.size, 1, none⟩ = some (.int .i64 F1) ∧ w'.cell? ⟨w.heap.size, 2, none⟩ = some (.int .i64 R)) (by kernel_rfl) ⟨c0, c1, c2⟩ (fun hH => ?_)
    refine wpAnyH_take (i := 0) (v := ?_) (List.getElem?_toArray.trans rfl) (by kernel_rfl) (by kernel_rfl) (by kernel_rfl) (fun _ _ _ h => h) (Or.inl ⟨by rfl, ?_⟩) (by assumption) ?_
    rotate_left
    · (intro w hSw; obtain ⟨h1, h2, h3⟩ := hSw; go_simp; try (with_reducible rfl))
    simp only [Act.put, List.setIfInBounds_toArray, List.set_cons_zero, List.set_cons_succ]
    refine wpAnyH_take (i := 1) (v := ?_) (List.getElem?_toArray.trans rfl) (by kernel_rfl) (by kernel_rfl) (by kernel_rfl) (fun _ _ _ h => h) (Or.inl ⟨by rfl, ?_⟩) (by assumption) ?_
    rotate_left
    · (intro w hSw; obtain ⟨h1, h2, h3⟩ := hSw; go_simp; try (with_reducible rfl))
    simp only [Act.put, List.setIfInBounds_toArray, List.set_cons_zero, List.set_cons_succ]
    refine wpAnyH_ready (rs := [2]) (by kernel_rfl) (by simp) ?_
    refine AllReadyH.cons (List.getElem?_toArray.trans rfl) (fun K3 hK3 => ?_) AllReadyH.nil
    go_simp
    refine (cL).mono ?_
    rintro e w' ⟨rfl, rfl⟩
    dsimp only
    refine hK3.out _ _ ⟨c0, c1, c2⟩ (fun hHeld3 => ?_)
    clear hK3 K3
    refine wpAnyH_ready (rs := [3]) (by kernel_rfl) (by simp) ?_
    refine AllReadyH.cons (List.getElem?_toArray.trans rfl) (fun K3 hK3 => ?_) AllReadyH.nil
    go_simp
    refine (cR).mono ?_
    rintro e w3 ⟨rfl, hb3⟩
    have hL3 := hLg.below (w' := w3) (next (below_drew (Below.refl _ _)) hb3)
    have hb4 := next hb1 hb3
    dsimp only
    refine hK3.out _ _ ⟨hL3.c0, hL3.c1, hL3.c2⟩ (fun hHeld3 => ?_)
    clear hK3 K3
    refine wpAnyH_take (i := 4) (v := ?_) (List.getElem?_toArray.trans rfl) (by kernel_rfl) (by kernel_rfl) (by kernel_rfl) (fun _ _ _ h => h) (Or.inl ⟨by rfl, ?_⟩) (by assumption) ?_
    rotate_left
    · (intro w hSw; obtain ⟨h1, h2, h3⟩ := hSw; go_simp; try (with_reducible rfl))
    simp only [Act.put, List.setIfInBounds_toArray, List.set_cons_zero, List.set_cons_succ]
    refine wpAnyH_take (i := 5) (v := ?_) (List.getElem?_toArray.trans rfl) (by kernel_rfl) (by kernel_rfl) (by kernel_rfl) (fun _ _ _ h => h) (Or.inl ⟨by rfl, ?_⟩) (by assumption) ?_
    rotate_left
    · (intro w hSw; obtain ⟨h1, h2, h3⟩ := hSw; go_simp; try (with_reducible rfl))
    simp only [Act.put, List.setIfInBounds_toArray, List.set_cons_zero, List.set_cons_succ]
    refine wpAnyH_take (i := 6) (v := undef) (List.getElem?_toArray.trans rfl) (by kernel_rfl) (by kernel_rfl) (by kernel_rfl) (fun _ _ _ h => h) (Or.inr ⟨by rfl, rfl⟩) (by assumption) ?_
    simp only [Act.put, List.setIfInBounds_toArray, List.set_cons_zero, List.set_cons_succ]
    refine wpAnyH_take (i := 7) (v := undef) (List.getElem?_toArray.trans rfl) (by kernel_rfl) (by kernel_rfl) (by kernel_rfl) (fun _ _ _ h => h) (Or.inr ⟨by rfl, rfl⟩) (by assumption) ?_
    simp only [Act.put, List.setIfInBounds_toArray, List.set_cons_zero, List.set_cons_succ]
    refine wpAnyH_take (i := 8) (v := undef) (List.getElem?_toArray.trans rfl) (by kernel_rfl) (by kernel_rfl) (by kernel_rfl) (fun _ _ _ h => h) (Or.inr ⟨by rfl, rfl⟩) (by assumption) ?_
    simp only [Act.put, List.setIfInBounds_toArray, List.set_cons_zero, List.set_cons_succ]
    refine wpAnyH_take (i := 9) (v := undef) (List.getElem?_toArray.trans rfl) (by kernel_rfl) (by kernel_rfl) (by kernel_rfl) (fun _ _ _ h => h) (Or.inr ⟨by rfl, rfl⟩) (by assumption) ?_
    simp only [Act.put, List.setIfInBounds_toArray, List.set_cons_zero, List.set_cons_succ]
    refine wpAnyH_take (i := 10) (v := undef) (List.getElem?_toArray.trans rfl) (by kernel_rfl) (by kernel_rfl) (by kernel_rfl) (fun _ _ _ h => h) (Or.inr ⟨by rfl, rfl⟩) (by assumption) ?_
    simp only [Act.put, List.setIfInBounds_toArray, List.set_cons_zero, List.set_cons_succ]
    refine wpAnyH_take (i := 11) (v := ?_) (List.getElem?_toArray.trans rfl) (by kernel_rfl) (by kernel_rfl) (by kernel_rfl) (fun _ _ _ h => h) (Or.inl ⟨by rfl, ?_⟩) (by assumption) ?_
    rotate_left
    · (intro w hSw; obtain ⟨h1, h2, h3⟩ := hSw; go_simp; try (with_reducible rfl))
    simp only [Act.put, List.setIfInBounds_toArray, List.set_cons_zero, List.set_cons_succ]
    refine wpAnyH_done (by kernel_rfl) ?_ _
    go_wp2
    go_ret
    exact ⟨rfl, hb4⟩
  | true =>
    rw [h1] at cR
    have h2 : rightB S.n D m = false := by
      rw [eB]
      unfold comB at hB
      rw [h1] at hB
      simpa using hB
    clear hB eB
    go_enter Tryz.func8, Tryz.ntmps8
    go_upto_region 1 with fail
    refine wp_region_held_drew (S := fun w' => w'.cell? ⟨w.heap.size, 0, none⟩ = some (.int .i64 M) ∧ w'.cell? ⟨w.heap.size, 1, none⟩ = some (.int .i64 F1) ∧ w'.cell? ⟨w.heap.size, 2, none⟩ = some (.int .i64 R)) (by kernel_rfl) ⟨c0, c1, c2⟩ (fun hH => ?_)
    refine wpAnyH_take (i := 0) (v := ?_) (List.getElem?_toArray.trans rfl) (by kernel_rfl) (by kernel_rfl) (by kernel_rfl) (fun _ _ _ h => h) (Or.inl ⟨by rfl, ?_⟩) (by assumption) ?_
    rotate_left
    · (intro w hSw; obtain ⟨h1, h2, h3⟩ := hSw; go_simp; try (with_reducible rfl))
    simp only [Act.put, List.setIfInBounds_toArray, List.set_cons_zero, List.set_cons_succ]
    refine wpAnyH_take (i := 1) (v := ?_) (List.getElem?_toArray.trans rfl) (by kernel_rfl) (by kernel_rfl) (by kernel_rfl) (fun _ _ _ h => h) (Or.inl ⟨by rfl, ?_⟩) (by assumption) ?_
    rotate_left
    · (intro w hSw; obtain ⟨h1, h2, h3⟩ := hSw; go_simp; try (with_reducible rfl))
    simp only [Act.put, List.setIfInBounds_toArray, List.set_cons_zero, List.set_cons_succ]
    refine wpAnyH_ready (rs := [2]) (by kernel_rfl) (by simp) ?_
    refine AllReadyH.cons (List.getElem?_toArray.trans rfl) (fun K3 hK3 => ?_) AllReadyH.nil
    go_simp
    refine (cL).mono ?_
    rintro e w' ⟨rfl, rfl⟩
    dsimp only
    refine hK3.out _ _ ⟨c0, c1, c2⟩ (fun hHeld3 => ?_)
    clear hK3 K3
    refine wpAnyH_ready (rs := [3]) (by kernel_rfl) (by simp) ?_
    refine AllReadyH.cons (List.getElem?_toArray.trans rfl) (fun K3 hK3 => ?_) AllReadyH.nil
    go_simp
    refine (cR).mono ?_
    rintro e w3 ⟨rfl, hb3⟩
    have hL3 := hLg.below (w' := w3) (next (below_drew (Below.refl _ _)) hb3)
    have hb4 := next hb1 hb3
    have cL3 := lines_any (HD.out.below hb3)
    have cK3 := right_any S.n lo m lc D w3 (HK.out.below hb3)
    rw [h2] at cK3
    dsimp only
    refine hK3.out _ _ ⟨hL3.c0, hL3.c1, hL3.c2⟩ (fun hHeld3 => ?_)
    clear hK3 K3
    refine wpAnyH_take (i := 4) (v := ?_) (List.getElem?_toArray.trans rfl) (by kernel_rfl) (by kernel_rfl) (by kernel_rfl) (fun _ _ _ h => h) (Or.inl ⟨by rfl, ?_⟩) (by assumption) ?_
    rotate_left
    · (intro w hSw; obtain ⟨h1, h2, h3⟩ := hSw; go_simp; try (with_reducible rfl))
    simp only [Act.put, List.setIfInBounds_toArray, List.set_cons_zero, List.set_cons_succ]
    refine wpAnyH_take (i := 5) (v := ?_) (List.getElem?_toArray.trans rfl) (by kernel_rfl) (by kernel_rfl) (by kernel_rfl) (fun _ _ _ h => h) (Or.inl ⟨by rfl, ?_⟩) (by assumption) ?_
    rotate_left
    · (intro w hSw; obtain ⟨h1, h2, h3⟩ := hSw; go_simp; try (with_reducible rfl))
    simp only [Act.put, List.setIfInBounds_toArray, List.set_cons_zero, List.set_cons_succ]
    refine wpAnyH_take (i := 6) (v := ?_) (List.getElem?_toArray.trans rfl) (by kernel_rfl) (by kernel_rfl) (by kernel_rfl) (fun _ _ _ h => h) (Or.inl ⟨by rfl, ?_⟩) (by assumption) ?_
    rotate_left
    · (intro w hSw; obtain ⟨h1, h2, h3⟩ := hSw; go_simp; try (with_reducible rfl))
    simp only [Act.put, List.setIfInBounds_toArray, List.set_cons_zero, List.set_cons_succ]
    refine wpAnyH_take (i := 8) (v := ?_) (List.getElem?_toArray.trans rfl) (by kernel_rfl) (by kernel_rfl) (by kernel_rfl) (fun _ _ _ h => h) (Or.inl ⟨by rfl, ?_⟩) (by assumption) ?_
    rotate_left
    · (intro w hSw; obtain ⟨h1, h2, h3⟩ := hSw; go_simp; try (with_reducible rfl))
    simp only [Act.put, List.setIfInBounds_toArray, List.set_cons_zero, List.set_cons_succ]
    refine wpAnyH_ready (rs := [7]) (by kernel_rfl) (by simp) ?_
    refine AllReadyH.cons (List.getElem?_toArray.trans rfl) (fun K3 hK3 => ?_) AllReadyH.nil
    go_simp
    refine (cL3).mono ?_
    rintro e w' ⟨rfl, rfl⟩
    dsimp only
    refine hK3.out _ _ (by assumption) (fun hHeld5 => ?_)
    clear hK3 K3
    refine wpAnyH_ready (rs := [9]) (by kernel_rfl) (by simp) ?_
    refine AllReadyH.cons (List.getElem?_toArray.trans rfl) (fun K3 hK3 => ?_) AllReadyH.nil
    go_simp
    refine (cK3).mono ?_
    rintro e w5 ⟨rfl, hb5⟩
    have hL5 := hL3.below hb5
    have hb6 := next hb4 hb5
    dsimp only
    refine hK3.out _ _ ⟨hL5.c0, hL5.c1, hL5.c2⟩ (fun hHeld6 => ?_)
    clear hK3 K3
    refine wpAnyH_take (i := 10) (v := ?_) (List.getElem?_toArray.trans rfl) (by kernel_rfl) (by kernel_rfl) (by kernel_rfl) (fun _ _ _ h => h) (Or.inl ⟨by rfl, ?_⟩) (by assumption) ?_
    rotate_left
    · (intro w hSw; obtain ⟨h1, h2, h3⟩ := hSw; go_simp; try (with_reducible rfl))
    simp only [Act.put, List.setIfInBounds_toArray, List.set_cons_zero, List.set_cons_succ]
    refine wpAnyH_take (i := 11) (v := ?_) (List.getElem?_toArray.trans rfl) (by kernel_rfl) (by kernel_rfl) (by kernel_rfl) (fun _ _ _ h => h) (Or.inl ⟨by rfl, ?_⟩) (by assumption) ?_
    rotate_left
    · (intro w hSw; obtain ⟨h1, h2, h3⟩ := hSw; go_simp; try (with_reducible rfl))
    simp only [Act.put, List.setIfInBounds_toArray, List.set_cons_zero, List.set_cons_succ]
    refine wpAnyH_done (by kernel_rfl) ?_ _
    go_wp2
    go_ret
    exact ⟨rfl, hb6⟩
set_option maxHeartbeats 3200000 in
/-- Write's error, or nothing to do. -/
theorem commit_idle {w : World} {F : Nat → Prop} {p : Nat} {S : St} (hd : Dev w F p S) (M F1 R : Int) (lo : Option Addr) (m lc : Nat) (D : Nat → ChD) (hg : (Lg.mk M F1 R).Ok) (h : Chs w lo m D) (hB : comB S.n ⟨M, F1, R⟩ (saysN D m) = true) (hW : ¬ (writeE ⟨M, F1, R⟩ (saysN D m) = 0 ∧ 0 < m)) :
    Calls Tryz.prog 8 #[.pointer (some ⟨p, 0, none⟩), .agg #[.int .i64 M, .int .i64 F1, .int .i64 R], .slice lo m lc] w fun e w' => e = .returned (.int .i64 (writeE ⟨M, F1, R⟩ (saysN D m))) ∧ Below w.heap.size w w' := by
  have hbA := (Below.refl w.heap.size w).alloc (Nat.le_refl _) (.cells #[.int .i64 M, .int .i64 F1, .int .i64 R] 24)
  have hbD := below_drew hbA
  have hLg := logAt_new w M F1 R
  obtain ⟨c0, c1, c2⟩ := logCells w M F1 R
  have hdD := hd.below hbD
  have hN : Rg (S.n : Int) := by have := hd.ok.n1; unfold Rg; omega
  have cL := lines_any hdD
  have cR := wright_any M F1 R S.n (w.alloc (.cells #[.int .i64 M, .int .i64 F1, .int .i64 R] 24)).drew hg hN
  have hkD := h.below hbD
  have HD := hid hdD
  have HK := hid hkD
  have hb1 : Below w.heap.size w (w.alloc (.cells #[.int .i64 M, .int .i64 F1, .int .i64 R] 24)).drew := hbD
  have h12 : rightG ⟨M, F1, R⟩ S.n = true ∧ rightL S.n (saysN D m) = true := by unfold comB at hB; simpa using hB
  obtain ⟨h1, h2'⟩ := h12
  have h2 : rightB S.n D m = true := by rw [rightB_eq]; exact h2'
  have hm9 := h.fit
  rw [h1] at cR
  clear hd hkD hdD hbA hB h2' h1 h
  obtain ⟨E, hE⟩ : ∃ E, E = writeE ⟨M, F1, R⟩ (saysN D m) := ⟨_, rfl⟩
  rw [← hE] at hW ⊢
  have HE := hid hE
  have HR := hid hW
  clear hE hW
  go_enter Tryz.func8, Tryz.ntmps8
  go_upto_region 1 with fail
  refine wp_region_held_drew (S := fun w' => w'.cell? ⟨w.heap.size, 0, none⟩ = some (.int .i64 M) ∧ w'.cell? ⟨w.heap.size, 1, none⟩ = some (.int .i64 F1) ∧ w'.cell? ⟨w.heap.size, 2, none⟩ = some (.int .i64 R)) (by kernel_rfl) ⟨c0, c1, c2⟩ (fun hH => ?_)
  refine wpAnyH_take (i := 0) (v := ?_) (List.getElem?_toArray.trans rfl) (by kernel_rfl) (by kernel_rfl) (by kernel_rfl) (fun _ _ _ h => h) (Or.inl ⟨by rfl, ?_⟩) (by assumption) ?_
  rotate_left
  · (intro w hSw; obtain ⟨h1, h2, h3⟩ := hSw; go_simp; try (with_reducible rfl))
  simp only [Act.put, List.setIfInBounds_toArray, List.set_cons_zero, List.set_cons_succ]
  refine wpAnyH_take (i := 1) (v := ?_) (List.getElem?_toArray.trans rfl) (by kernel_rfl) (by kernel_rfl) (by kernel_rfl) (fun _ _ _ h => h) (Or.inl ⟨by rfl, ?_⟩) (by assumption) ?_
  rotate_left
  · (intro w hSw; obtain ⟨h1, h2, h3⟩ := hSw; go_simp; try (with_reducible rfl))
  simp only [Act.put, List.setIfInBounds_toArray, List.set_cons_zero, List.set_cons_succ]
  refine wpAnyH_ready (rs := [2]) (by kernel_rfl) (by simp) ?_
  refine AllReadyH.cons (List.getElem?_toArray.trans rfl) (fun K3 hK3 => ?_) AllReadyH.nil
  go_simp
  refine (cL).mono ?_
  rintro e w' ⟨rfl, rfl⟩
  dsimp only
  refine hK3.out _ _ ⟨c0, c1, c2⟩ (fun hHeld3 => ?_)
  clear hK3 K3
  refine wpAnyH_ready (rs := [3]) (by kernel_rfl) (by simp) ?_
  refine AllReadyH.cons (List.getElem?_toArray.trans rfl) (fun K3 hK3 => ?_) AllReadyH.nil
  go_simp
  refine (cR).mono ?_
  rintro e w3 ⟨rfl, hb3⟩
  have hL3 := hLg.below (w' := w3) (next (below_drew (Below.refl _ _)) hb3)
  have hb4 := next hb1 hb3
  have cL3 := lines_any (HD.out.below hb3)
  have cK3 := right_any S.n lo m lc D w3 (HK.out.below hb3)
  rw [h2] at cK3
  dsimp only
  refine hK3.out _ _ ⟨hL3.c0, hL3.c1, hL3.c2⟩ (fun hHeld3 => ?_)
  clear hK3 K3
  refine wpAnyH_take (i := 4) (v := ?_) (List.getElem?_toArray.trans rfl) (by kernel_rfl) (by kernel_rfl) (by kernel_rfl) (fun _ _ _ h => h) (Or.inl ⟨by rfl, ?_⟩) (by assumption) ?_
  rotate_left
  · (intro w hSw; obtain ⟨h1, h2, h3⟩ := hSw; go_simp; try (with_reducible rfl))
  simp only [Act.put, List.setIfInBounds_toArray, List.set_cons_zero, List.set_cons_succ]
  refine wpAnyH_take (i := 5) (v := ?_) (List.getElem?_toArray.trans rfl) (by kernel_rfl) (by kernel_rfl) (by kernel_rfl) (fun _ _ _ h => h) (Or.inl ⟨by rfl, ?_⟩) (by assumption) ?_
  rotate_left
  · (intro w hSw; obtain ⟨h1, h2, h3⟩ := hSw; go_simp; try (with_reducible rfl))
  simp only [Act.put, List.setIfInBounds_toArray, List.set_cons_zero, List.set_cons_succ]
  refine wpAnyH_take (i := 6) (v := ?_) (List.getElem?_toArray.trans rfl) (by kernel_rfl) (by kernel_rfl) (by kernel_rfl) (fun _ _ _ h => h) (Or.inl ⟨by rfl, ?_⟩) (by assumption) ?_
  rotate_left
  · (intro w hSw; obtain ⟨h1, h2, h3⟩ := hSw; go_simp; try (with_reducible rfl))
  simp only [Act.put, List.setIfInBounds_toArray, List.set_cons_zero, List.set_cons_succ]
  refine wpAnyH_take (i := 8) (v := ?_) (List.getElem?_toArray.trans rfl) (by kernel_rfl) (by kernel_rfl) (by kernel_rfl) (fun _ _ _ h => h) (Or.inl ⟨by rfl, ?_⟩) (by assumption) ?_
  rotate_left
  · (intro w hSw; obtain ⟨h1, h2, h3⟩ := hSw; go_simp; try (with_reducible rfl))
  simp only [Act.put, List.setIfInBounds_toArray, List.set_cons_zero, List.set_cons_succ]
  refine wpAnyH_ready (rs := [7]) (by kernel_rfl) (by simp) ?_
  refine AllReadyH.cons (List.getElem?_toArray.trans rfl) (fun K3 hK3 => ?_) AllReadyH.nil
  go_simp
  refine (cL3).mono ?_
  rintro e w' ⟨rfl, rfl⟩
  dsimp only
  refine hK3.out _ _ (by assumption) (fun hHeld5 => ?_)
  clear hK3 K3
  refine wpAnyH_ready (rs := [9]) (by kernel_rfl) (by simp) ?_
  refine AllReadyH.cons (List.getElem?_toArray.trans rfl) (fun K3 hK3 => ?_) AllReadyH.nil
  go_simp
  refine (cK3).mono ?_
  rintro e w5 ⟨rfl, hb5⟩
  have hL5 := hL3.below hb5
  have hb6 := next hb4 hb5
  dsimp only
  refine hK3.out _ _ ⟨hL5.c0, hL5.c1, hL5.c2⟩ (fun hHeld6 => ?_)
  clear hK3 K3
  refine wpAnyH_take (i := 10) (v := ?_) (List.getElem?_toArray.trans rfl) (by kernel_rfl) (by kernel_rfl) (by kernel_rfl) (fun _ _ _ h => h) (Or.inl ⟨by rfl, ?_⟩) (by assumption) ?_
  rotate_left
  · (intro w hSw; obtain ⟨h1, h2, h3⟩ := hSw; go_simp; try (with_reducible rfl))
  simp only [Act.put, List.setIfInBounds_toArray, List.set_cons_zero, List.set_cons_succ]
  refine wpAnyH_take (i := 11) (v := ?_) (List.getElem?_toArray.trans rfl) (by kernel_rfl) (by kernel_rfl) (by kernel_rfl) (fun _ _ _ h => h) (Or.inl ⟨by rfl, ?_⟩) (by assumption) ?_
  rotate_left
  · (intro w hSw; obtain ⟨h1, h2, h3⟩ := hSw; go_simp; try (with_reducible rfl))
  simp only [Act.put, List.setIfInBounds_toArray, List.set_cons_zero, List.set_cons_succ]
  refine wpAnyH_done (by kernel_rfl) ?_ _
  have hd5 := HD.out.below (next hb3 hb5)
  have hk5 := HK.out.below (next hb3 hb5)
  obtain ⟨x0, x1, x2⟩ : w5.cell? ⟨w.heap.size, 0, none⟩ = some (.int .i64 M) ∧ w5.cell? ⟨w.heap.size, 1, none⟩ = some (.int .i64 F1) ∧ w5.cell? ⟨w.heap.size, 2, none⟩ = some (.int .i64 R) := ⟨hL5.c0, hL5.c1, hL5.c2⟩
  clear hHeld6 hHeld5 hHeld3 hH hL3 hb3 hb4 hb5 cL3 cL cR c0 c1 c2 hb1 hbD HD HK hLg
  have cW := write_any M F1 R lo m lc D w5 hg hk5
  rw [← HE.out] at cW
  clear hk5 hd5 hL5 cK3 h2 HE hg
  by_cases hz : E = 0
  · have hm0 : m = 0 := by have := HR.out; omega
    subst hz hm0
    go_wp2_with (go_at_call 28; with_reducible refine cW.mono ?_; rintro e w7 ⟨ao, na, ca, bo, nb, cb, rfl, oa, om, hne, hb7⟩; have hb8 := next hb6 hb7)
    go_ret
    exact ⟨rfl, hb8⟩
  · have hz' : (E != 0) = true := by simpa using hz
    go_wp2_with (go_at_call 28; with_reducible refine cW.mono ?_; rintro e w7 ⟨ao, na, ca, bo, nb, cb, rfl, oa, om, hne, hb7⟩; have hb8 := next hb6 hb7)
    go_ret
    exact ⟨rfl, hb8⟩

theorem com_eq {fi mk na : Nat} {R : Int} {l : List Chg} (hl : (recsL l).length = na) : (([] ++ [Stp.st (fi * 64) (recsL l), .fl (fi * 64) na, .fe]) ++ [.st (mk * 64) (markL (recsL l)), .fl (mk * 64) 64, .fe]) ++ finS mk l = comS ⟨mk, fi, R⟩ l := by
  unfold comS keepS
  simp only [Int.toNat_natCast, markL_length, hl, List.nil_append]
/-- What is known while the steps are laid out: w: where Commit began; w7: where they begin. -/
structure Com (w w7 : World) (F : Nat → Prop) (p : Nat) (S : St) (gb mk fi : Nat) (R : Int) (lo : Option Addr) (m : Nat) (D : Nat → ChD) (ao : Option Addr) (na ca : Nat) (bo : Option Addr) (cb : Nat) : Prop where
  d : Dev w7 F p S
  k : Chs w7 lo m D
  l : LogAt w7 gb mk fi R
  b : Below w.heap.size w w7
  oa : Own .u8 5 0 w7 ao na ca (recsL (saysN D m))
  om : Own .u8 5 0 w7 bo 64 cb (markL (recsL (saysN D m)))
  na' : ∀ c, ao = some c → c.block < w7.heap.size ∧ ¬ F c.block
  nm : ∀ c, bo = some c → c.block < w7.heap.size ∧ ¬ F c.block
  mem : ∀ i, i < m → 0 ≤ (D i).line ∧ (D i).line ≤ 4096
  byt : Bytes (recsL (saysN D m))
  m4 : m ≤ 4096
  no : ∀ i, i < m → 0 < (D i).bl → ∀ c, (D i).ba = some c → ¬ F c.block
theorem commit_begin {w w5 w7 : World} {F : Nat → Prop} {p : Nat} {S : St} {mk fi : Nat} {R : Int} {lo : Option Addr} {m : Nat} {D : Nat → ChD} {ao : Option Addr} {na ca : Nat} {bo : Option Addr} {nb cb : Nat} (hd : Dev w5 F p S) (hk : Chs w5 lo m D) (hl : LogAt w5 w.heap.size mk fi R) (hW : writeE ⟨mk, fi, R⟩ (saysN D m) = 0)
    (hx : (∀ i, i < m → 0 ≤ (D i).line ∧ (D i).line ≤ 4096) ∧ Bytes (recsL (saysN D m)) ∧ m ≤ 4096 ∧ (∀ i, i < m → 0 < (D i).bl → ∀ c, (D i).ba = some c → ¬ F c.block) ∧ ∀ k, F k → k < w.heap.size)
    (oa : Own .u8 5 w5.heap.size w7 ao na ca (writeA ⟨mk, fi, R⟩ (saysN D m))) (om : Own .u8 5 w5.heap.size w7 bo nb cb (writeM ⟨mk, fi, R⟩ (saysN D m))) (hb7 : Below w5.heap.size w5 w7) (hfi : fi ≤ 4096) (hb6 : Below w.heap.size w w5) :
    Hid (Com w w7 F p S w.heap.size mk fi R lo m D ao na ca bo cb ∧ nb = 64) ∧ (Calls Tryz.prog 29 #[.pointer (some ⟨w7.heap.size, 0, none⟩), .int .i64 (fi : Int), .slice ao na ca] (w7.alloc (.cells #[.pointer (some ⟨p, 0, none⟩), .slice none 0 0] 64)) fun e w' => e = .returned (.tuple #[]) ∧ ∃ K' ro' rc' fs', StepsAt w' F K' w7.heap.size p ro' (0 + 3) rc' fs' ([] ++ [.st (fi * 64) (recsL (saysN D m)), .fl (fi * 64) na, .fe]) ∧ Grew (w7.alloc (.cells #[.pointer (some ⟨p, 0, none⟩), .slice none 0 0] 64)) w7.heap.size none w' ro') ∧
    (w7.alloc (.cells #[.pointer (some ⟨p, 0, none⟩), .slice none 0 0] 64)).cell? ⟨w.heap.size, 0, none⟩ = some (.int .i64 (mk : Int)) ∧ (w7.alloc (.cells #[.pointer (some ⟨p, 0, none⟩), .slice none 0 0] 64)).cell? ⟨w.heap.size, 1, none⟩ = some (.int .i64 (fi : Int)) ∧ (w7.alloc (.cells #[.pointer (some ⟨p, 0, none⟩), .slice none 0 0] 64)).cell? ⟨w.heap.size, 2, none⟩ = some (.int .i64 R) := by
  obtain ⟨x1, x2, x3, x4, x5⟩ := hx
  have eA : writeA ⟨mk, fi, R⟩ (saysN D m) = recsL (saysN D m) := by unfold writeA; rw [if_pos hW]
  have eM : writeM ⟨mk, fi, R⟩ (saysN D m) = markL (recsL (saysN D m)) := by unfold writeM; rw [if_pos hW]
  rw [eA] at oa
  rw [eM] at om
  obtain rfl : nb = 64 := by rw [← om.len, markL_length]
  have hs5 := hb6.size
  have hd7 := hd.below hb7
  have hb8 : Below w7.heap.size w7 (w7.alloc (.cells #[.pointer (some ⟨p, 0, none⟩), .slice none 0 0] 64)) := (Below.refl _ _).alloc (Nat.le_refl _) _
  have hl8 := (hl.below hb7).below hb8
  have na' : ∀ c, ao = some c → c.block < w7.heap.size ∧ ¬ F c.block := fun c hc => ⟨(own_at oa hc).2, fun hf => by have := (own_at oa hc).1; have := x5 _ hf; omega⟩
  have nm : ∀ c, bo = some c → c.block < w7.heap.size ∧ ¬ F c.block := fun c hc => ⟨(own_at om hc).2, fun hf => by have := (own_at om hc).1; have := x5 _ hf; omega⟩
  have hs := steps_new hd7
  exact ⟨⟨⟨hd7, hk.below hb7, hl.below hb7, next hb6 hb7, oa.mono (Nat.zero_le _), om.mono (Nat.zero_le _), na', nm, x1, x2, x3, x4⟩, rfl⟩,
    keep_any hs fi hfi ao na ca _ ((oa.below hb8).sl) x2 oa.cap_le.2 (dat_low (W0 := w7) hs (fun _ c hc => na' c hc)) (by omega), hl8.c0, hl8.c1, hl8.c2⟩
theorem commit_second {w w7 w9 : World} {F K : Nat → Prop} {p : Nat} {S : St} {mk fi : Nat} {R : Int} {lo : Option Addr} {m : Nat} {D : Nat → ChD} {ao : Option Addr} {na ca : Nat} {bo : Option Addr} {nb cb n rc : Nat} {ro : Option Addr} {fs : List Value} {xs : List Stp} (hc : Com w w7 F p S w.heap.size mk fi R lo m D ao na ca bo cb ∧ nb = 64)
    (h : StepsAt w9 F K w7.heap.size p ro n rc fs xs) (g : Grew (w7.alloc (.cells #[.pointer (some ⟨p, 0, none⟩), .slice none 0 0] 64)) w7.heap.size none w9 ro) (hmk : mk ≤ 4096) (hn : n ≤ 10 := by omega) :
    Hid ((Com w w7 F p S w.heap.size mk fi R lo m D ao na ca bo cb ∧ nb = 64) ∧ Grew (w7.alloc (.cells #[.pointer (some ⟨p, 0, none⟩), .slice none 0 0] 64)) w7.heap.size none w9 ro) ∧ (Calls Tryz.prog 29 #[.pointer (some ⟨w7.heap.size, 0, none⟩), .int .i64 (mk : Int), .slice bo nb cb] w9 fun e w' => e = .returned (.tuple #[]) ∧ ∃ K' ro' rc' fs', StepsAt w' F K' w7.heap.size p ro' (n + 3) rc' fs' (xs ++ [.st (mk * 64) (markL (recsL (saysN D m))), .fl (mk * 64) nb, .fe]) ∧ Grew w9 w7.heap.size ro w' ro') ∧
    w9.cell? ⟨w.heap.size, 0, none⟩ = some (.int .i64 (mk : Int)) ∧ w9.cell? ⟨w.heap.size, 1, none⟩ = some (.int .i64 (fi : Int)) ∧ w9.cell? ⟨w.heap.size, 2, none⟩ = some (.int .i64 R) := by
  obtain ⟨c, rfl⟩ := hc
  have hb8 : Below w7.heap.size w7 (w7.alloc (.cells #[.pointer (some ⟨p, 0, none⟩), .slice none 0 0] 64)) := (Below.refl _ _).alloc (Nat.le_refl _) _
  have hb9 : Below w7.heap.size w7 w9 := hb8.trans (g.below (steps_new c.d))
  have hl9 := c.l.below hb9
  exact ⟨⟨⟨c, rfl⟩, g⟩, keep_any h mk hmk bo 64 cb _ ((c.om.below hb9).sl) (markL_bytes _) c.om.cap_le.2 (dat_low (W0 := w7) h (fun _ q hq => c.nm q hq)) (by omega), hl9.c0, hl9.c1, hl9.c2⟩
theorem commit_third {w w7 w9 wA : World} {F K : Nat → Prop} {p : Nat} {S : St} {mk fi : Nat} {R : Int} {lo : Option Addr} {m lc : Nat} {D : Nat → ChD} {ao : Option Addr} {na ca : Nat} {bo : Option Addr} {nb cb n rc : Nat} {ro roA : Option Addr} {fs : List Value} {xs : List Stp} (hc : (Com w w7 F p S w.heap.size mk fi R lo m D ao na ca bo cb ∧ nb = 64) ∧ Grew (w7.alloc (.cells #[.pointer (some ⟨p, 0, none⟩), .slice none 0 0] 64)) w7.heap.size none w9 ro)
    (h : StepsAt wA F K w7.heap.size p roA n rc fs xs) (g : Grew w9 w7.heap.size ro wA roA) (hmk : mk ≤ 4096) (hn : n ≤ 10 := by omega) :
    Hid ((Com w w7 F p S w.heap.size mk fi R lo m D ao na ca bo cb ∧ nb = 64) ∧ Grew (w7.alloc (.cells #[.pointer (some ⟨p, 0, none⟩), .slice none 0 0] 64)) w7.heap.size none wA roA) ∧ (Calls Tryz.prog 30 #[.pointer (some ⟨w7.heap.size, 0, none⟩), .agg #[.int .i64 (mk : Int), .int .i64 (fi : Int), .int .i64 R], .slice lo m lc] wA fun e w' => e = .returned (.tuple #[]) ∧ ∃ K' ro' rc' fs', StepsAt w' F K' w7.heap.size p ro' (n + 2 * m + 4) rc' fs' (xs ++ finS mk (saysN D m)) ∧ Grew wA w7.heap.size roA w' ro') ∧
    wA.cell? ⟨w.heap.size, 0, none⟩ = some (.int .i64 (mk : Int)) ∧ wA.cell? ⟨w.heap.size, 1, none⟩ = some (.int .i64 (fi : Int)) ∧ wA.cell? ⟨w.heap.size, 2, none⟩ = some (.int .i64 R) := by
  obtain ⟨⟨c, rfl⟩, g0⟩ := hc
  have gA := g0.trans g
  have hb8 : Below w7.heap.size w7 (w7.alloc (.cells #[.pointer (some ⟨p, 0, none⟩), .slice none 0 0] 64)) := (Below.refl _ _).alloc (Nat.le_refl _) _
  have hbA : Below w7.heap.size w7 wA := hb8.trans (gA.below (steps_new c.d))
  have hlA := c.l.below hbA
  exact ⟨⟨⟨c, rfl⟩, gA⟩, finish_any h mk fi R hmk lo m lc D rfl c.k hbA c.mem c.no c.m4 hn, hlA.c0, hlA.c1, hlA.c2⟩
theorem commit_last {w w7 wA wB : World} {F K : Nat → Prop} {p : Nat} {S : St} {mk fi : Nat} {R : Int} {lo : Option Addr} {m : Nat} {D : Nat → ChD} {ao : Option Addr} {na ca : Nat} {bo : Option Addr} {nb cb n rc : Nat} {ro roB : Option Addr} {fs : List Value} (hc : (Com w w7 F p S w.heap.size mk fi R lo m D ao na ca bo cb ∧ nb = 64) ∧ Grew (w7.alloc (.cells #[.pointer (some ⟨p, 0, none⟩), .slice none 0 0] 64)) w7.heap.size none wA ro)
    (h : StepsAt wB F K w7.heap.size p roB n rc fs ((([] ++ [.st (fi * 64) (recsL (saysN D m)), .fl (fi * 64) na, .fe]) ++ [.st (mk * 64) (markL (recsL (saysN D m))), .fl (mk * 64) nb, .fe]) ++ finS mk (saysN D m))) (g : Grew wA w7.heap.size ro wB roB) (hn : n = 0 + 3 + 3 + 2 * m + 4 := by rfl) :
    Hid (Goes F w F wB) ∧ Calls Tryz.prog 31 #[.pointer (some ⟨w7.heap.size, 0, none⟩)] wB fun e w' => e = .returned (.int .i64 (runE S (comS ⟨mk, fi, R⟩ (saysN D m)))) ∧ ∃ F', Dev w' F' p (runS S (comS ⟨mk, fi, R⟩ (saysN D m))) ∧ Goes F wB F' w' := by
  obtain ⟨⟨c, rfl⟩, g0⟩ := hc
  have gB := g0.trans g
  have hb8 : Below w7.heap.size w7 (w7.alloc (.cells #[.pointer (some ⟨p, 0, none⟩), .slice none 0 0] 64)) := (Below.refl _ _).alloc (Nat.le_refl _) _
  have hbB : Below w7.heap.size w7 wB := hb8.trans (gB.below (steps_new c.d))
  rw [com_eq (R := R) c.oa.len] at h
  have hm := c.m4
  exact ⟨Goes.of_below (next c.b hbB), srun_any h (c.d.below hbB) (by omega)⟩
set_option maxHeartbeats 6400000 in
theorem commit_good {w : World} {F : Nat → Prop} {p : Nat} {S : St} (hd : Dev w F p S) (M F1 R : Int) (lo : Option Addr) (m lc : Nat) (D : Nat → ChD) (hg : (Lg.mk M F1 R).Ok) (h : Chs w lo m D) (hno : ∀ i, i < m → 0 < (D i).bl → ∀ c, (D i).ba = some c → ¬ F c.block) (hB : comB S.n ⟨M, F1, R⟩ (saysN D m) = true) (hW : writeE ⟨M, F1, R⟩ (saysN D m) = 0) (hm : 0 < m) :
    Calls Tryz.prog 8 #[.pointer (some ⟨p, 0, none⟩), .agg #[.int .i64 M, .int .i64 F1, .int .i64 R], .slice lo m lc] w fun e w' => e = .returned (.int .i64 (runE S (comS ⟨M, F1, R⟩ (saysN D m)))) ∧ ∃ F', Dev w' F' p (runS S (comS ⟨M, F1, R⟩ (saysN D m))) ∧ Goes F w F' w' := by
  have hbA := (Below.refl w.heap.size w).alloc (Nat.le_refl _) (.cells #[.int .i64 M, .int .i64 F1, .int .i64 R] 24)
  have hbD := below_drew hbA
  have hLg := logAt_new w M F1 R
  obtain ⟨c0, c1, c2⟩ := logCells w M F1 R
  have hdD := hd.below hbD
  have hN : Rg (S.n : Int) := by have := hd.ok.n1; unfold Rg; omega
  have cL := lines_any hdD
  have cR := wright_any M F1 R S.n (w.alloc (.cells #[.int .i64 M, .int .i64 F1, .int .i64 R] 24)).drew hg hN
  have hkD := h.below hbD
  have HD := hid hdD
  have HK := hid hkD
  have hb1 : Below w.heap.size w (w.alloc (.cells #[.int .i64 M, .int .i64 F1, .int .i64 R] 24)).drew := hbD
  have h12 : rightG ⟨M, F1, R⟩ S.n = true ∧ rightL S.n (saysN D m) = true := by unfold comB at hB; simpa using hB
  obtain ⟨h1, h2'⟩ := h12
  have h2 : rightB S.n D m = true := by rw [rightB_eq]; exact h2'
  have hm9 := h.fit
  rw [h1] at cR
  have hn1 := hd.ok.n1
  have hG := rightG_iff.1 h1
  have g1 := hG.m0
  have g2 := hG.m1
  have g3 := hG.f0
  have g4 := hG.f1
  have g5 := hG.r0
  simp only at g1 g2 g3 g4 g5
  obtain ⟨w1, w2, w3, w4⟩ := writeE_zero hW
  have hml : (saysN D m).length = m := saysN_length D m
  have hmem : ∀ i, i < m → 0 ≤ (D i).line ∧ (D i).line ≤ 4096 := fun i hi => by have t := rightL_mem w2 (says_mem D hi); exact ⟨t.1, Int.le_of_lt t.2.1⟩
  have hbyt : Bytes (recsL (saysN D m)) := recsL_bytes (fun c hc => by
    obtain ⟨i, hi, rfl⟩ : ∃ i, i < m ∧ (D i).says = c := by
      unfold saysN at hc
      rw [List.mem_map] at hc
      obtain ⟨i, hi, e⟩ := hc
      exact ⟨i, by simpa using hi, e⟩
    exact (h.ok i hi).by_)
  have hm4 : m ≤ 4096 := by have := rightL_len w2; omega
  have flt := hd.bound
  have HX := hid (And.intro hmem (And.intro hbyt (And.intro hm4 (And.intro hno flt))))
  clear hd hkD hdD hbA hB h2' h1 h hG w1 w2 w3 w4 hmem hbyt hno flt hml
  obtain ⟨mk, rfl⟩ : ∃ mk : Nat, M = mk := ⟨M.toNat, by omega⟩
  obtain ⟨fi, rfl⟩ : ∃ fi : Nat, F1 = fi := ⟨F1.toNat, by omega⟩
  have hmk : mk ≤ 4096 := by omega
  have hfi : fi ≤ 4096 := by omega
  have hmi : ¬ ((m : Int) = 0) := by omega
  clear g1 g2 g3 g4 g5
  go_enter Tryz.func8, Tryz.ntmps8
  go_upto_region 1 with fail
  refine wp_region_held_drew (S := fun w' => w'.cell? ⟨w.heap.size, 0, none⟩ = some (.int .i64 (mk : Int)) ∧ w'.cell? ⟨w.heap.size, 1, none⟩ = some (.int .i64 (fi : Int)) ∧ w'.cell? ⟨w.heap.size, 2, none⟩ = some (.int .i64 R)) (by kernel_rfl) ⟨c0, c1, c2⟩ (fun hH => ?_)
  refine wpAnyH_take (i := 0) (v := ?_) (List.getElem?_toArray.trans rfl) (by kernel_rfl) (by kernel_rfl) (by kernel_rfl) (fun _ _ _ h => h) (Or.inl ⟨by rfl, ?_⟩) (by assumption) ?_
  rotate_left
  · (intro w hSw; obtain ⟨h1, h2, h3⟩ := hSw; go_simp; try (with_reducible rfl))
  simp only [Act.put, List.setIfInBounds_toArray, List.set_cons_zero, List.set_cons_succ]
  refine wpAnyH_take (i := 1) (v := ?_) (List.getElem?_toArray.trans rfl) (by kernel_rfl) (by kernel_rfl) (by kernel_rfl) (fun _ _ _ h => h) (Or.inl ⟨by rfl, ?_⟩) (by assumption) ?_
  rotate_left
  · (intro w hSw; obtain ⟨h1, h2, h3⟩ := hSw; go_simp; try (with_reducible rfl))
  simp only [Act.put, List.setIfInBounds_toArray, List.set_cons_zero, List.set_cons_succ]
  refine wpAnyH_ready (rs := [2]) (by kernel_rfl) (by simp) ?_
  refine AllReadyH.cons (List.getElem?_toArray.trans rfl) (fun K3 hK3 => ?_) AllReadyH.nil
  go_simp
  refine (cL).mono ?_
  rintro e w' ⟨rfl, rfl⟩
  dsimp only
  refine hK3.out _ _ ⟨c0, c1, c2⟩ (fun hHeld3 => ?_)
  clear hK3 K3
  refine wpAnyH_ready (rs := [3]) (by kernel_rfl) (by simp) ?_
  refine AllReadyH.cons (List.getElem?_toArray.trans rfl) (fun K3 hK3 => ?_) AllReadyH.nil
  go_simp
  refine (cR).mono ?_
  rintro e w3 ⟨rfl, hb3⟩
  have hL3 := hLg.below (w' := w3) (next (below_drew (Below.refl _ _)) hb3)
  have hb4 := next hb1 hb3
  have cL3 := lines_any (HD.out.below hb3)
  have cK3 := right_any S.n lo m lc D w3 (HK.out.below hb3)
  rw [h2] at cK3
  dsimp only
  refine hK3.out _ _ ⟨hL3.c0, hL3.c1, hL3.c2⟩ (fun hHeld3 => ?_)
  clear hK3 K3
  refine wpAnyH_take (i := 4) (v := ?_) (List.getElem?_toArray.trans rfl) (by kernel_rfl) (by kernel_rfl) (by kernel_rfl) (fun _ _ _ h => h) (Or.inl ⟨by rfl, ?_⟩) (by assumption) ?_
  rotate_left
  · (intro w hSw; obtain ⟨h1, h2, h3⟩ := hSw; go_simp; try (with_reducible rfl))
  simp only [Act.put, List.setIfInBounds_toArray, List.set_cons_zero, List.set_cons_succ]
  refine wpAnyH_take (i := 5) (v := ?_) (List.getElem?_toArray.trans rfl) (by kernel_rfl) (by kernel_rfl) (by kernel_rfl) (fun _ _ _ h => h) (Or.inl ⟨by rfl, ?_⟩) (by assumption) ?_
  rotate_left
  · (intro w hSw; obtain ⟨h1, h2, h3⟩ := hSw; go_simp; try (with_reducible rfl))
  simp only [Act.put, List.setIfInBounds_toArray, List.set_cons_zero, List.set_cons_succ]
  refine wpAnyH_take (i := 6) (v := ?_) (List.getElem?_toArray.trans rfl) (by kernel_rfl) (by kernel_rfl) (by kernel_rfl) (fun _ _ _ h => h) (Or.inl ⟨by rfl, ?_⟩) (by assumption) ?_
  rotate_left
  · (intro w hSw; obtain ⟨h1, h2, h3⟩ := hSw; go_simp; try (with_reducible rfl))
  simp only [Act.put, List.setIfInBounds_toArray, List.set_cons_zero, List.set_cons_succ]
  refine wpAnyH_take (i := 8) (v := ?_) (List.getElem?_toArray.trans rfl) (by kernel_rfl) (by kernel_rfl) (by kernel_rfl) (fun _ _ _ h => h) (Or.inl ⟨by rfl, ?_⟩) (by assumption) ?_
  rotate_left
  · (intro w hSw; obtain ⟨h1, h2, h3⟩ := hSw; go_simp; try (with_reducible rfl))
  simp only [Act.put, List.setIfInBounds_toArray, List.set_cons_zero, List.set_cons_succ]
  refine wpAnyH_ready (rs := [7]) (by kernel_rfl) (by simp) ?_
  refine AllReadyH.cons (List.getElem?_toArray.trans rfl) (fun K3 hK3 => ?_) AllReadyH.nil
  go_simp
  refine (cL3).mono ?_
  rintro e w' ⟨rfl, rfl⟩
  dsimp only
  refine hK3.out _ _ (by assumption) (fun hHeld5 => ?_)
  clear hK3 K3
  refine wpAnyH_ready (rs := [9]) (by kernel_rfl) (by simp) ?_
  refine AllReadyH.cons (List.getElem?_toArray.trans rfl) (fun K3 hK3 => ?_) AllReadyH.nil
  go_simp
  refine (cK3).mono ?_
  rintro e w5 ⟨rfl, hb5⟩
  have hL5 := hL3.below hb5
  have hb6 := next hb4 hb5
  dsimp only
  refine hK3.out _ _ ⟨hL5.c0, hL5.c1, hL5.c2⟩ (fun hHeld6 => ?_)
  clear hK3 K3
  refine wpAnyH_take (i := 10) (v := ?_) (List.getElem?_toArray.trans rfl) (by kernel_rfl) (by kernel_rfl) (by kernel_rfl) (fun _ _ _ h => h) (Or.inl ⟨by rfl, ?_⟩) (by assumption) ?_
  rotate_left
  · (intro w hSw; obtain ⟨h1, h2, h3⟩ := hSw; go_simp; try (with_reducible rfl))
  simp only [Act.put, List.setIfInBounds_toArray, List.set_cons_zero, List.set_cons_succ]
  refine wpAnyH_take (i := 11) (v := ?_) (List.getElem?_toArray.trans rfl) (by kernel_rfl) (by kernel_rfl) (by kernel_rfl) (fun _ _ _ h => h) (Or.inl ⟨by rfl, ?_⟩) (by assumption) ?_
  rotate_left
  · (intro w hSw; obtain ⟨h1, h2, h3⟩ := hSw; go_simp; try (with_reducible rfl))
  simp only [Act.put, List.setIfInBounds_toArray, List.set_cons_zero, List.set_cons_succ]
  refine wpAnyH_done (by kernel_rfl) ?_ _
  have hd5 := HD.out.below (next hb3 hb5)
  have hk5 := HK.out.below (next hb3 hb5)
  obtain ⟨x0, x1, x2⟩ : w5.cell? ⟨w.heap.size, 0, none⟩ = some (.int .i64 (mk : Int)) ∧ w5.cell? ⟨w.heap.size, 1, none⟩ = some (.int .i64 (fi : Int)) ∧ w5.cell? ⟨w.heap.size, 2, none⟩ = some (.int .i64 R) := ⟨hL5.c0, hL5.c1, hL5.c2⟩
  clear hHeld6 hHeld5 hHeld3 hH hL3 hb3 hb4 hb5 cL3 cL cR c0 c1 c2 hb1 hbD HD HK hLg
  have cW := write_any mk fi R lo m lc D w5 hg hk5
  rw [hW] at cW
  have HW := hid hW
  have HD5 := hid hd5
  have HK5 := hid hk5
  have HL5 := hid hL5
  have HB6 := hid hb6
  clear hk5 hd5 hL5 cK3 h2 hg hW hb6 hn1
  go_wp2_with (first
    | (go_at_call 28; with_reducible refine cW.mono ?_; rintro e w7 ⟨ao, na, ca, bo, nb, cb, rfl, oa, om, hne, hb7⟩; obtain ⟨HQ, cK1, z0, z1, z2⟩ := commit_begin HD5.out HK5.out HL5.out HW.out HX.out oa om hb7 hfi HB6.out)
    | (go_at_call 29; with_reducible refine cK1.mono ?_; rintro e w9 ⟨rfl, K9, ro9, rc9, fs9, h9, G9⟩; obtain ⟨HQ9, cK2, z0, z1, z2⟩ := commit_second HQ.out h9 G9 hmk)
    | (go_at_call 29; with_reducible refine cK2.mono ?_; rintro e wA ⟨rfl, KA, roA, rcA, fsA, hA, GA⟩; obtain ⟨HQA, cF, z0, z1, z2⟩ := commit_third HQ9.out hA GA hmk (lc := lc))
    | (go_at_call 30; with_reducible refine cF.mono ?_; rintro e wB ⟨rfl, KB, roB, rcB, fsB, hB, GB⟩; obtain ⟨HGB, cRn⟩ := commit_last HQA.out hB GB)
    | (go_at_call 31; with_reducible refine cRn.mono ?_; rintro e wC ⟨rfl, F', dC, gC⟩))
  go_ret
  exact ⟨rfl, F', dC, HGB.out.trans gC⟩
end Go.Proofs.YtgiippbjieecmaaGreat
/- The small case of the log, reckoned. -/
namespace Go.Proofs.YtgiippbjieecmaaGreat
set_option maxRecDepth 100000
open Go.RowKit
set_option linter.unusedVariables false

theorem commit_any {w : World} {F : Nat → Prop} {p : Nat} {S : St} (hd : Dev w F p S) (M F1 R : Int) (lo : Option Addr) (m lc : Nat) (D : Nat → ChD) (hg : (Lg.mk M F1 R).Ok) (h : Chs w lo m D) (hno : ∀ i, i < m → 0 < (D i).bl → ∀ c, (D i).ba = some c → ¬ F c.block) :
    Calls Tryz.prog 8 #[.pointer (some ⟨p, 0, none⟩), .agg #[.int .i64 M, .int .i64 F1, .int .i64 R], .slice lo m lc] w fun e w' => e = .returned (.int .i64 (commitE S ⟨M, F1, R⟩ (saysN D m))) ∧ ∃ F', Dev w' F' p (commitS S ⟨M, F1, R⟩ (saysN D m)) ∧ Goes F w F' w' := by
  have hl : saysN D m ≠ [] ↔ 0 < m := by
    have := saysN_length D m
    constructor
    · intro h
      have := List.length_pos_iff.2 h
      omega
    · intro h e
      rw [e] at this
      simp at this
      omega
  cases hB : comB S.n ⟨M, F1, R⟩ (saysN D m) with
  | false =>
    rw [(commit_arg hB).1, (commit_arg hB).2]
    exact (commit_bad hd M F1 R lo m lc D hg h hB).mono fun e w' ⟨h1, h2⟩ => ⟨h1, F, hd.below h2, Goes.of_below h2⟩
  | true =>
    by_cases hW : writeE ⟨M, F1, R⟩ (saysN D m) = 0 ∧ 0 < m
    · obtain ⟨e1, e2⟩ := commit_runs hB hW.1 (hl.2 hW.2)
      rw [e1, e2]
      exact commit_good hd M F1 R lo m lc D hg h hno hB hW.1 hW.2
    · obtain ⟨e1, e2⟩ := commit_same hB (fun e => hW ⟨e.1, hl.1 e.2⟩)
      rw [e1, e2]
      exact (commit_idle hd M F1 R lo m lc D hg h hB hW).mono fun e w' ⟨h1, h2⟩ => ⟨h1, F, hd.below h2, Goes.of_below h2⟩

def swg : Lg := ⟨1, 2, 2⟩
def swo : List Int := List.replicate 64 1
def sw0 : St := St.new (List.replicate 512 0)
def sw1 : St := commitS sw0 swg [(7, swo)]
theorem sw_e1 : commitE sw0 swg [(7, swo)] = 0 := by decide +kernel
theorem sw_s1 : (lasts sw1).length = 512 ∧ (lasts sw1).getD 511 0 = 1 ∧ (lasts sw1).getD 64 0 = 0 := by decide +kernel
theorem sw_n1 : sw1.n = 8 := by decide +kernel
theorem sw_e2 (S : St) (h : S.n = 8) : commitE S swg [(0, swo), (6, swo), (7, swo)] = 6 := by
  have h1 : comB S.n swg [(0, swo), (6, swo), (7, swo)] = true := by rw [h]; decide +kernel
  rw [(commit_same h1 (by decide +kernel)).1]
  decide +kernel
theorem sw_e3 (S : St) (h : S.n = 8) : commitE S swg [(1, swo)] = 1 := by
  have h1 : comB S.n swg [(1, swo)] = true := by rw [h]; decide +kernel
  rw [(commit_same h1 (by decide +kernel)).1]
  decide +kernel
end Go.Proofs.YtgiippbjieecmaaGreat
/- joistlaw05.small by its contract. -/
namespace Go.Proofs.YtgiippbjieecmaaGreat
set_option maxRecDepth 100000
open Go.RowKit
set_option linter.unusedVariables false

theorem cell_goes {F F' : Nat → Prop} {w w' : World} {b i : Nat} {v : Value} (h : Goes F w F' w') (hb : b < w.heap.size) (hn : ¬ F b) (hc : w.cell? ⟨b, i, none⟩ = some v) : w'.cell? ⟨b, i, none⟩ = some v :=
  (World.cell?_of_block (a := ⟨b, i, none⟩) (h.off.block b hb hn)).trans hc
def onesK (k : Nat) : List Int := List.replicate k 1 ++ List.replicate (64 - k) 0
theorem onesK_set {k : Nat} (h : k < 64) : (onesK k).set k 1 = onesK (k + 1) := by
  unfold onesK
  rw [List.set_append_right _ _ (by simp), List.length_replicate, Nat.sub_self, show 64 - k = (64 - (k + 1)) + 1 by omega, List.replicate_succ, List.set_cons_zero, List.replicate_succ', List.append_assoc]
  rfl
theorem ones_any (w : World) : Calls Tryz.prog 22 #[] w fun e w' => ∃ g, e = .returned (.slice (some ⟨g, 0, none⟩) 64 64) ∧ Own .u8 5 w.heap.size w' (some ⟨g, 0, none⟩) 64 64 swo ∧ Below w.heap.size w w' := by
  obtain ⟨i0, hi, hz0, hz1, hz2⟩ := info_parts Tryz.info5
  have hb5 : i0.bytes * 64 ≤ 281474976710656 := by rw [hz2]; omega
  go_enter Tryz.func22, Tryz.ntmps22
  go_wp2_with (at_make; refine wpList_make_full _ rfl _ _ 22 rfl w.heap.size 5 i0 (.int .u8 0) 1 Tryz.underlying22 hi hz0 hz1 .i64 .i64 _ _ 64 rfl rfl (by simp) (by simp) ?b2 ?b3 ?b4 ?_)
  case b2 => exact hb5
  case b3 => unfold maxLen; omega
  case b4 => exact Nat.le_refl _
  intro w1 hown hgrow
  have hmade : (madeCells #[Value.int .u8 0] 64).toList = (onesK 0).map (Value.int .u8) := by rw [toList_madeCells_one]; rfl
  have hbel : Below w.heap.size w w1 := (Below.refl _ _).grown hgrow (Nat.le_refl _) (by intro k hk; cases hk)
  rw [hmade] at hown
  clear hmade hgrow hi hz0 hz1 hz2 hb5
  go_wp2
  go_loopw [2] (fun i wr => ∃ k : Nat, k ≤ 64 ∧ i = .int .i64 k ∧ Own .u8 5 w.heap.size wr (some ⟨w.heap.size, 0, none⟩) 64 64 (onesK k) ∧ Below w.heap.size w wr) (fun i _ => 64 - (RowKit.intOf i).toNat)
  case atStart => exact ⟨0, Nat.zero_le _, rfl, ⟨rfl, hown⟩, hbel⟩
  case round =>
    clear hown hbel
    obtain ⟨k, hk, rfl, ho, hb⟩ := hrel
    by_cases hlt : k < 64
    · have hki : (k : Int) < 64 := by omega
      have h2 := ho.set k 1
      rw [onesK_set hlt] at h2
      have hc := ho.at k hlt rfl
      obtain ⟨cur, hcur, _⟩ := ho.block
      have hf : wr.frozen? ⟨w.heap.size, k, none⟩ = false := frozen_of_row wr w.heap.size k _ _ hcur
      have hb2 : Below w.heap.size w (wr.setCell ⟨w.heap.size, k, none⟩ (.int .u8 1)) := hb.setCell (Nat.le_refl _) _
      generalize (onesK k).getD k 0 = zz at *
      clear ho hcur
      go_wp2
      go_roundw
      case rel => exact ⟨k + 1, by omega, by go_num, h2, hb2⟩
      case measure => simp [RowKit.intOf]; omega
    · obtain rfl : k = 64 := by omega
      have e : onesK 64 = swo := by simp [onesK, swo]
      rw [e] at ho
      go_wp2
      go_ret
      exact ⟨_, rfl, ho, hb⟩

theorem own_far {k : IntKind} {e : TypeId} {B : Nat} {w w' : World} {F : Nat → Prop} {p g n cap : Nat} {S : St} {zs : List Int} (hd : Dev w F p S) (o : Own k e B w' (some ⟨g, 0, none⟩) n cap zs) (hB : w.heap.size ≤ B) : ¬ F g := fun hf => by
  have h1 := hd.bound _ hf
  have h2 : B ≤ g := (own_at o rfl).1
  omega
theorem lg_ok : (Lg.mk 1 2 2).Ok := ⟨by unfold Rg; simp, by unfold Rg; simp, by unfold Rg; simp⟩
def oneD (line : Int) (g : Nat) : ChD := ⟨line, some ⟨g, 0, none⟩, 64, 64, swo⟩
theorem swo_bytes : Bytes swo := fun z hz => by
  unfold swo at hz
  rw [List.mem_replicate] at hz
  omega
theorem chOk_one {B : Nat} {w w' : World} {g : Nat} {line : Int} (o : Own .u8 5 B w (some ⟨g, 0, none⟩) 64 64 swo) (hb : Below w.heap.size w w') (hl : Rg line) : ChOk w' (oneD line g) := ⟨hl, (o.below hb).sl, swo_bytes, (by show 64 ≤ 9223372036854775807; omega)⟩
theorem commit_lit1 {w : World} {F : Nat → Prop} {p B g : Nat} {S : St} (hd : Dev w F p S) (o : Own .u8 5 B w (some ⟨g, 0, none⟩) 64 64 swo) (hgF : ¬ F g) (line : Int) (hl : Rg line) :
    Calls Tryz.prog 8 #[.pointer (some ⟨p, 0, none⟩), .agg #[.int .i64 1, .int .i64 2, .int .i64 2], .slice (some ⟨w.heap.size, 0, none⟩) 1 1] (w.alloc (.cells #[.int .i64 line, .slice (some ⟨g, 0, none⟩) 64 64] 49)) fun e w' => e = .returned (.int .i64 (commitE S swg [(line, swo)])) ∧ ∃ F', Dev w' F' p (commitS S swg [(line, swo)]) ∧ Goes F w F' w' := by
  have hb : Below w.heap.size w (w.alloc (.cells #[.int .i64 line, .slice (some ⟨g, 0, none⟩) 64 64] 49)) := (Below.refl _ _).alloc (Nat.le_refl _) _
  have hC : Chs (w.alloc (.cells #[.int .i64 line, .slice (some ⟨g, 0, none⟩) 64 64] 49)) (some ⟨w.heap.size, 0, none⟩) 1 (fun _ => oneD line g) := by
    refine ⟨by omega, fun _ => ⟨_, _, rfl, by simp, fun i hi => ?_⟩, fun i hi => chOk_one o hb hl⟩
    obtain rfl : i = 0 := by omega
    simp [oneD]
  have h := commit_any (hd.below hb) 1 2 2 _ 1 1 _ lg_ok hC (fun i hi _ c hc => by simp only [oneD, Option.some.injEq] at hc; subst hc; exact hgF)
  have e : saysN (fun _ => oneD line g) 1 = [(line, swo)] := by simp [saysN, oneD, ChD.says]
  rw [e] at h
  exact h.mono fun e w' ⟨h1, F', h2, h3⟩ => ⟨h1, F', h2, (Goes.of_below hb).trans h3⟩
def threeD (a b c : Nat) : Nat → ChD
  | 0 => oneD 0 a
  | 1 => oneD 6 b
  | _ => oneD 7 c
theorem commit_lit3 {w : World} {F : Nat → Prop} {p B a b c : Nat} {S : St} (hd : Dev w F p S) (oa : Own .u8 5 B w (some ⟨a, 0, none⟩) 64 64 swo) (ob : Own .u8 5 B w (some ⟨b, 0, none⟩) 64 64 swo) (oc : Own .u8 5 B w (some ⟨c, 0, none⟩) 64 64 swo) (ha : ¬ F a) (hb' : ¬ F b) (hc' : ¬ F c) :
    Calls Tryz.prog 8 #[.pointer (some ⟨p, 0, none⟩), .agg #[.int .i64 1, .int .i64 2, .int .i64 2], .slice (some ⟨w.heap.size, 0, none⟩) 3 3] (w.alloc (.cells #[.int .i64 0, .slice (some ⟨a, 0, none⟩) 64 64, .int .i64 6, .slice (some ⟨b, 0, none⟩) 64 64, .int .i64 7, .slice (some ⟨c, 0, none⟩) 64 64] 49)) fun e w' => e = .returned (.int .i64 (commitE S swg [(0, swo), (6, swo), (7, swo)])) ∧ ∃ F', Dev w' F' p (commitS S swg [(0, swo), (6, swo), (7, swo)]) ∧ Goes F w F' w' := by
  have hb : Below w.heap.size w (w.alloc (.cells #[.int .i64 0, .slice (some ⟨a, 0, none⟩) 64 64, .int .i64 6, .slice (some ⟨b, 0, none⟩) 64 64, .int .i64 7, .slice (some ⟨c, 0, none⟩) 64 64] 49)) := (Below.refl _ _).alloc (Nat.le_refl _) _
  have hC : Chs (w.alloc (.cells #[.int .i64 0, .slice (some ⟨a, 0, none⟩) 64 64, .int .i64 6, .slice (some ⟨b, 0, none⟩) 64 64, .int .i64 7, .slice (some ⟨c, 0, none⟩) 64 64] 49)) (some ⟨w.heap.size, 0, none⟩) 3 (threeD a b c) := by
    refine ⟨by omega, fun _ => ⟨_, _, rfl, by simp, fun i hi => ?_⟩, fun i hi => ?_⟩
    · obtain rfl | rfl | rfl : i = 0 ∨ i = 1 ∨ i = 2 := by omega
      all_goals simp [threeD, oneD]
    · obtain rfl | rfl | rfl : i = 0 ∨ i = 1 ∨ i = 2 := by omega
      · exact chOk_one oa hb (by unfold Rg; omega)
      · exact chOk_one ob hb (by unfold Rg; omega)
      · exact chOk_one oc hb (by unfold Rg; omega)
  have h := commit_any (hd.below hb) 1 2 2 _ 3 3 _ lg_ok hC (fun i hi _ q hq => by
    obtain rfl | rfl | rfl : i = 0 ∨ i = 1 ∨ i = 2 := by omega
    all_goals
      simp only [threeD, oneD, Option.some.injEq] at hq
      subst hq
      assumption)
  have e : saysN (threeD a b c) 3 = [(0, swo), (6, swo), (7, swo)] := by simp [saysN, threeD, oneD, ChD.says, List.range_succ]
  rw [e] at h
  exact h.mono fun e w' ⟨h1, F', h2, h3⟩ => ⟨h1, F', h2, (Goes.of_below hb).trans h3⟩
theorem new_512 {w : World} {g : Nat} (h : w.heap[g]? = some (.cells (List.replicate 512 (.int .u8 0)).toArray 5 (0, 0))) :
    Calls Tryz.prog 5 #[.slice (some ⟨g, 0, none⟩) 512 512] w fun e w' => ∃ p F, e = .returned (.tuple #[.pointer (some ⟨p, 0, none⟩), .int .i64 0]) ∧ Dev w' F p sw0 ∧ (∀ k, F k → w.heap.size ≤ k) ∧ Below w.heap.size w w' := by
  refine new_good _ 512 512 (List.replicate 512 0) w ⟨by simp, Nat.le_refl _, (by intro h; cases h), fun _ => ⟨g, 0, rfl, (Array.getElem?_eq_some_iff.1 h).1, fun i hi => ?_⟩⟩ (by intro z hz; rw [List.mem_replicate] at hz; omega) (by decide +kernel)
  have e1 : ∀ n i, (List.replicate n (0 : Int)).getD i 0 = 0 := by
    intro n i
    rw [List.getD, List.getElem?_replicate]
    split <;> rfl
  rw [e1]
  simp only [World.cell?, h]
  have e2 : ∀ n i, i < n → (List.replicate n (Value.int .u8 0)).toArray[0 + i]? = some (.int .u8 0) := by
    intro n i hi
    rw [List.getElem?_toArray, List.getElem?_replicate, if_pos (by omega)]
  exact e2 512 i hi
theorem sw_n2 : (commitS sw1 swg [(0, swo), (6, swo), (7, swo)]).n = 8 := by
  have h1 : comB sw1.n swg [(0, swo), (6, swo), (7, swo)] = true := by rw [sw_n1]; decide +kernel
  rw [(commit_same h1 (by decide +kernel)).2]
  exact sw_n1
theorem sw_i1 {w : World} {F : Nat → Prop} {p : Nat} (hd : Dev w F p sw1) : Calls Tryz.prog 16 #[.pointer (some ⟨p, 0, none⟩)] w fun e w' => ∃ g c, e = .returned (.slice (some ⟨g, 0, none⟩) 512 c) ∧ w'.cell? ⟨g, 511, none⟩ = some (.int .u8 1) ∧ w'.cell? ⟨g, 64, none⟩ = some (.int .u8 0) ∧ w.heap.size ≤ g ∧ g < w'.heap.size ∧ 512 ≤ c ∧ c ≤ 9223372036854775807 ∧ Below w.heap.size w w' := by
  refine (image_any hd).mono ?_
  rintro e w' ⟨g, c, rfl, ho, hb⟩
  have hl : sw1.seen.length = 512 := by have := hd.ok.len; rw [sw_n1] at this; omega
  rw [hl] at ho ⊢
  obtain ⟨_, s2, s3⟩ := sw_s1
  exact ⟨g, c, rfl, ho.at 511 (by omega) s2, ho.at 64 (by omega) s3, (own_at ho rfl).1, (own_at ho rfl).2, ho.cap_le.1, ho.cap_le.2, hb⟩
theorem LogAt.goes {F F' : Nat → Prop} {w w' : World} {b : Nat} {M F1 R : Int} (h : LogAt w b M F1 R) (g : Goes F w F' w') (hn : ¬ F b) : LogAt w' b M F1 R :=
  ⟨Nat.lt_of_lt_of_le h.lt g.off.size, cell_goes g h.lt hn h.c0, cell_goes g h.lt hn h.c1, cell_goes g h.lt hn h.c2⟩
theorem goes_bound {F F' : Nat → Prop} {w w' : World} {B : Nat} (g : Goes F w F' w') (h : ∀ k, F k → B ≤ k) (hB : B ≤ w.heap.size) : ∀ k, F' k → B ≤ k := fun k hk => by
  rcases g.new k hk with h1 | h1
  · exact h k h1
  · omega

set_option maxHeartbeats 3200000 in
theorem wsmall_any (w : World) : Calls Tryz.prog 4 #[] w fun e w' => e = .returned (.bool true) ∧ Below w.heap.size w w' := by
  obtain ⟨i0, hi, hz0, hz1, hz2⟩ := info_parts Tryz.info5
  have hb5 : i0.bytes * 512 ≤ 281474976710656 := by rw [hz2]; omega
  have hL := logAt_new w 1 2 2
  have hbL : Below w.heap.size w (w.alloc (.cells #[.int .i64 1, .int .i64 2, .int .i64 2] 24)) := (Below.refl _ _).alloc (Nat.le_refl _) _
  go_enter Tryz.func4, Tryz.ntmps4
  go_wp2_with (first
    | (at_make; refine wpList_make_some _ rfl _ _ 22 rfl 5 i0 (.int .u8 0) Tryz.underlying22 hi hz0 hz1 rfl .i64 .i64 512 512 512 512 rfl rfl rfl rfl (Nat.le_refl _) hb5 (by unfold maxLen; omega) ?_; intro w1 HG1 hb1; have cN := new_512 (g := w.heap.size + 1) (by have h := HG1.out; rw [show (w.alloc (.cells #[.int .i64 1, .int .i64 2, .int .i64 2] 24)).heap.size = w.heap.size + 1 by simp] at h; exact h))
    | (go_at_call 5; with_reducible refine cN.mono ?_; rintro e w2 ⟨p, F0, rfl, hd0, hF0, hb2⟩))
  have hb12 := next hbL hb1
  have hB2 := next hb12 hb2
  have hL2 := (hL.below hb1).below hb2
  have hF0' : ∀ k, F0 k → w.heap.size + 1 ≤ k := fun k hk => by
    have := hF0 k hk
    have := hb1.size
    have := hL.lt
    omega
  have hB9 : w.heap.size + 1 ≤ w2.heap.size := hL2.lt
  have HB2 := hid hB2
  have hF0z := hid hF0'
  clear hB2 hb12 hb1 hb2 hL hbL hF0 HG1 hi hz0 hz1 hz2 hb5
  have dDA := hd0.below (below_drew (Below.refl _ _))
  have lDA := hL2.below (below_drew (Below.refl _ _))
  have hrA : Rg 7 := by unfold Rg; omega
  refine wp_region_held_drew (S := fun w' => w'.cell? ⟨w.heap.size, 0, none⟩ = some (.int .i64 1) ∧ w'.cell? ⟨w.heap.size, 1, none⟩ = some (.int .i64 2) ∧ w'.cell? ⟨w.heap.size, 2, none⟩ = some (.int .i64 2)) (by kernel_rfl) ⟨lDA.c0, lDA.c1, lDA.c2⟩ (fun hH => ?_)
  refine wpAnyH_take (i := 0) (v := ?_) (List.getElem?_toArray.trans rfl) (by kernel_rfl) (by kernel_rfl) (by kernel_rfl) (fun _ _ _ h => h) (Or.inl ⟨by rfl, ?_⟩) (by assumption) ?_
  rotate_left
  · (intro w hSw; obtain ⟨h1, h2, h3⟩ := hSw; go_simp; try (with_reducible rfl))
  simp only [Act.put, List.setIfInBounds_toArray, List.set_cons_zero, List.set_cons_succ]
  refine wpAnyH_take (i := 1) (v := ?_) (List.getElem?_toArray.trans rfl) (by kernel_rfl) (by kernel_rfl) (by kernel_rfl) (fun _ _ _ h => h) (Or.inl ⟨by rfl, ?_⟩) (by assumption) ?_
  rotate_left
  · (intro w hSw; obtain ⟨h1, h2, h3⟩ := hSw; go_simp; try (with_reducible rfl))
  simp only [Act.put, List.setIfInBounds_toArray, List.set_cons_zero, List.set_cons_succ]
  refine wpAnyH_ready (rs := [2]) (by kernel_rfl) (by simp) ?_
  refine AllReadyH.cons (List.getElem?_toArray.trans rfl) (fun K3 hK3 => ?_) AllReadyH.nil
  go_simp
  refine (ones_any _).mono ?_
  rintro e waA ⟨gaA, rfl, oaA, hbaA⟩
  have laA := lDA.below hbaA
  have daA := dDA.below hbaA
  have hgaA : ¬ F0 gaA := own_far dDA oaA (Nat.le_refl _)
  have cCA := commit_lit1 daA oaA hgaA 7 hrA
  have lbA := laA.below (w' := waA.alloc (.cells #[.int .i64 7, .slice (some ⟨gaA, 0, none⟩) 64 64] 49)) ((Below.refl _ _).alloc (Nat.le_refl _) _)
  dsimp only
  refine hK3.out _ _ ⟨laA.c0, laA.c1, laA.c2⟩ (fun hHaA => ?_)
  clear hK3 K3
  refine wpAnyH_take (i := 3) (v := ?_) (List.getElem?_toArray.trans rfl) (by kernel_rfl) (by kernel_rfl) (by kernel_rfl) (fun _ _ _ h => h) (Or.inl ⟨by rfl, ?_⟩) (by assumption) ?_
  rotate_left
  · (intro w hSw; obtain ⟨h1, h2, h3⟩ := hSw; go_simp; try (with_reducible rfl))
  simp only [Act.put, List.setIfInBounds_toArray, List.set_cons_zero, List.set_cons_succ]
  refine wpAnyH_ready (rs := [4]) (by kernel_rfl) (by simp) ?_
  refine AllReadyH.cons (List.getElem?_toArray.trans rfl) (fun K3 hK3 => ?_) AllReadyH.nil
  go_simp
  refine hK3.out _ _ ⟨lbA.c0, lbA.c1, lbA.c2⟩ (fun hHeldbA => ?_)
  clear hK3 K3
  refine wpAnyH_ready (rs := [5]) (by kernel_rfl) (by simp) ?_
  refine AllReadyH.cons (List.getElem?_toArray.trans rfl) (fun K3 hK3 => ?_) AllReadyH.nil
  go_simp
  refine (cCA).mono ?_
  rintro e wcA ⟨rfl, FcA, dcA, gcA⟩
  have lcA := laA.goes gcA (fun hf => by have := hF0' _ hf; omega)
  dsimp only
  refine hK3.out _ _ ⟨lcA.c0, lcA.c1, lcA.c2⟩ (fun hHcA => ?_)
  clear hK3 K3
  refine wpAnyH_ready (rs := [6]) (by kernel_rfl) (by simp) ?_
  refine AllReadyH.cons (List.getElem?_toArray.trans rfl) (fun K3 hK3 => ?_) AllReadyH.nil
  go_simp
  refine hK3.out _ _ ⟨lcA.c0, lcA.c1, lcA.c2⟩ (fun hHelddA => ?_)
  clear hK3 K3
  refine wpAnyH_done (by kernel_rfl) ?_ _
  have ggA := (Goes.of_below (F := F0) (below_drew (Below.refl _ w2))).trans ((Goes.of_below (F := F0) hbaA).trans gcA)
  have bFA := goes_bound ggA hF0' hB9
  clear hH hHaA hHeldbA hHcA hHelddA dDA lDA laA daA lbA cCA oaA hgaA hbaA gcA
  replace dcA : Dev wcA FcA p sw1 := dcA
  rw [show commitE sw0 swg [(7, swo)] = 0 from sw_e1]
  have sA := ggA.off.size
  have bA9 : w.heap.size + 1 ≤ wcA.heap.size := by omega
  have cI := sw_i1 dcA
  go_wp2_with (first
    | (go_at_call 16; with_reducible refine cI.mono ?_; rintro e wi ⟨gi, ci, rfl, i1, i2, gi0, gi1, gi2, gi3, hbi⟩))
  have di := dcA.below hbi
  have li := lcA.below hbi
  have hgi : ¬ FcA gi := fun hf => by have := dcA.bound _ hf; omega
  have bi9 : w.heap.size + 1 ≤ wi.heap.size := by have := hbi.size; omega
  have HGI := hid (ggA.trans (Goes.of_below hbi))
  clear dcA lcA cI hd0 hL2 ggA hF0'
  have dD := di.below (below_drew (Below.refl _ _))
  have lD := li.below (below_drew (Below.refl _ _))
  refine wp_region_held_drew (S := fun w' => w'.cell? ⟨w.heap.size, 0, none⟩ = some (.int .i64 1) ∧ w'.cell? ⟨w.heap.size, 1, none⟩ = some (.int .i64 2) ∧ w'.cell? ⟨w.heap.size, 2, none⟩ = some (.int .i64 2)) (by kernel_rfl) ⟨lD.c0, lD.c1, lD.c2⟩ (fun hH => ?_)
  refine wpAnyH_take (i := 0) (v := ?_) (List.getElem?_toArray.trans rfl) (by kernel_rfl) (by kernel_rfl) (by kernel_rfl) (fun _ _ _ h => h) (Or.inl ⟨by rfl, ?_⟩) (by assumption) ?_
  rotate_left
  · (intro w hSw; obtain ⟨h1, h2, h3⟩ := hSw; go_simp; try (with_reducible rfl))
  simp only [Act.put, List.setIfInBounds_toArray, List.set_cons_zero, List.set_cons_succ]
  refine wpAnyH_take (i := 1) (v := ?_) (List.getElem?_toArray.trans rfl) (by kernel_rfl) (by kernel_rfl) (by kernel_rfl) (fun _ _ _ h => h) (Or.inl ⟨by rfl, ?_⟩) (by assumption) ?_
  rotate_left
  · (intro w hSw; obtain ⟨h1, h2, h3⟩ := hSw; go_simp; try (with_reducible rfl))
  simp only [Act.put, List.setIfInBounds_toArray, List.set_cons_zero, List.set_cons_succ]
  refine wpAnyH_ready (rs := [2]) (by kernel_rfl) (by simp) ?_
  refine AllReadyH.cons (List.getElem?_toArray.trans rfl) (fun K3 hK3 => ?_) AllReadyH.nil
  go_simp
  refine (ones_any _).mono ?_
  rintro e w31 ⟨a1, rfl, o1, hb31⟩
  have l1 := lD.below hb31
  dsimp only
  refine hK3.out _ _ ⟨l1.c0, l1.c1, l1.c2⟩ (fun hH1 => ?_)
  clear hK3 K3
  refine wpAnyH_take (i := 3) (v := ?_) (List.getElem?_toArray.trans rfl) (by kernel_rfl) (by kernel_rfl) (by kernel_rfl) (fun _ _ _ h => h) (Or.inl ⟨by rfl, ?_⟩) (by assumption) ?_
  rotate_left
  · (intro w hSw; obtain ⟨h1, h2, h3⟩ := hSw; go_simp; try (with_reducible rfl))
  simp only [Act.put, List.setIfInBounds_toArray, List.set_cons_zero, List.set_cons_succ]
  refine wpAnyH_ready (rs := [4]) (by kernel_rfl) (by simp) ?_
  refine AllReadyH.cons (List.getElem?_toArray.trans rfl) (fun K3 hK3 => ?_) AllReadyH.nil
  go_simp
  refine (ones_any _).mono ?_
  rintro e w32 ⟨a2, rfl, o2, hb32⟩
  have l2 := l1.below hb32
  dsimp only
  refine hK3.out _ _ ⟨l2.c0, l2.c1, l2.c2⟩ (fun hH2 => ?_)
  clear hK3 K3
  refine wpAnyH_take (i := 5) (v := ?_) (List.getElem?_toArray.trans rfl) (by kernel_rfl) (by kernel_rfl) (by kernel_rfl) (fun _ _ _ h => h) (Or.inl ⟨by rfl, ?_⟩) (by assumption) ?_
  rotate_left
  · (intro w hSw; obtain ⟨h1, h2, h3⟩ := hSw; go_simp; try (with_reducible rfl))
  simp only [Act.put, List.setIfInBounds_toArray, List.set_cons_zero, List.set_cons_succ]
  refine wpAnyH_ready (rs := [6]) (by kernel_rfl) (by simp) ?_
  refine AllReadyH.cons (List.getElem?_toArray.trans rfl) (fun K3 hK3 => ?_) AllReadyH.nil
  go_simp
  refine (ones_any _).mono ?_
  rintro e w33 ⟨a3, rfl, o3, hb33⟩
  have l3 := l2.below hb33
  have hb13 := next (next hb31 hb32) hb33
  have d3 := dD.below hb13
  have hs1 := hb31.size
  have hs2 := hb32.size
  have q1 : ¬ FcA a1 := own_far dD o1 (Nat.le_refl _)
  have q2 : ¬ FcA a2 := own_far dD o2 hs1
  have q3 : ¬ FcA a3 := own_far dD o3 (Nat.le_trans hs1 hs2)
  have cC := commit_lit3 d3 (((o1.below hb32).below hb33).mono (Nat.zero_le _)) ((o2.below hb33).mono (Nat.zero_le _)) (o3.mono (Nat.zero_le _)) q1 q2 q3
  have l4 := l3.below (w' := w33.alloc (.cells #[.int .i64 0, .slice (some ⟨a1, 0, none⟩) 64 64, .int .i64 6, .slice (some ⟨a2, 0, none⟩) 64 64, .int .i64 7, .slice (some ⟨a3, 0, none⟩) 64 64] 49)) ((Below.refl _ _).alloc (Nat.le_refl _) _)
  dsimp only
  refine hK3.out _ _ ⟨l3.c0, l3.c1, l3.c2⟩ (fun hH3 => ?_)
  clear hK3 K3
  refine wpAnyH_take (i := 7) (v := ?_) (List.getElem?_toArray.trans rfl) (by kernel_rfl) (by kernel_rfl) (by kernel_rfl) (fun _ _ _ h => h) (Or.inl ⟨by rfl, ?_⟩) (by assumption) ?_
  rotate_left
  · (intro w hSw; obtain ⟨h1, h2, h3⟩ := hSw; go_simp; try (with_reducible rfl))
  simp only [Act.put, List.setIfInBounds_toArray, List.set_cons_zero, List.set_cons_succ]
  refine wpAnyH_ready (rs := [8]) (by kernel_rfl) (by simp) ?_
  refine AllReadyH.cons (List.getElem?_toArray.trans rfl) (fun K3 hK3 => ?_) AllReadyH.nil
  go_simp
  refine hK3.out _ _ ⟨l4.c0, l4.c1, l4.c2⟩ (fun hHeld4 => ?_)
  clear hK3 K3
  refine wpAnyH_ready (rs := [9]) (by kernel_rfl) (by simp) ?_
  refine AllReadyH.cons (List.getElem?_toArray.trans rfl) (fun K3 hK3 => ?_) AllReadyH.nil
  go_simp
  refine (cC).mono ?_
  rintro e wd ⟨rfl, Fd, dd, gd⟩
  have ld := l3.goes gd (fun hf => by have := bFA _ hf; omega)
  dsimp only
  refine hK3.out _ _ ⟨ld.c0, ld.c1, ld.c2⟩ (fun hH5 => ?_)
  clear hK3 K3
  refine wpAnyH_ready (rs := [10]) (by kernel_rfl) (by simp) ?_
  refine AllReadyH.cons (List.getElem?_toArray.trans rfl) (fun K3 hK3 => ?_) AllReadyH.nil
  go_simp
  refine hK3.out _ _ ⟨ld.c0, ld.c1, ld.c2⟩ (fun hHeld6 => ?_)
  clear hK3 K3
  refine wpAnyH_done (by kernel_rfl) ?_ _
  have gg := (Goes.of_below (F := FcA) (below_drew (Below.refl _ wi))).trans ((Goes.of_below (F := FcA) hb13).trans gd)
  have bFd := goes_bound gg bFA bi9
  have j1 := cell_goes gg gi1 hgi i1
  have j2 := cell_goes gg gi1 hgi i2
  have hgd : ¬ Fd gi := fun hf => by
    rcases gg.new _ hf with h | h
    · exact hgi h
    · omega
  have gid : gi < wd.heap.size := by have := gg.off.size; omega
  rw [sw_e2 sw1 sw_n1]
  have bd9 : w.heap.size + 1 ≤ wd.heap.size := by have := gg.off.size; omega
  have HGD := hid (HGI.out.trans gg)
  clear hH hH1 hH2 hH3 hHeld4 hH5 hHeld6 dD lD l1 l2 l3 l4 o1 o2 o3 hb31 hb32 hb33 hb13 d3 hs1 hs2 q1 q2 q3 cC gd gg di li i1 i2 hgi bi9 gi1 hbi
  have nd : (commitS sw1 swg [(0, swo), (6, swo), (7, swo)]).n = 8 := sw_n2
  generalize commitS sw1 swg [(0, swo), (6, swo), (7, swo)] = Sd at *
  go_wp2_with fail
  have dDB := dd.below (below_drew (Below.refl _ _))
  have lDB := ld.below (below_drew (Below.refl _ _))
  have hrB : Rg 1 := by unfold Rg; omega
  refine wp_region_held_drew (S := fun w' => w'.cell? ⟨w.heap.size, 0, none⟩ = some (.int .i64 1) ∧ w'.cell? ⟨w.heap.size, 1, none⟩ = some (.int .i64 2) ∧ w'.cell? ⟨w.heap.size, 2, none⟩ = some (.int .i64 2)) (by kernel_rfl) ⟨lDB.c0, lDB.c1, lDB.c2⟩ (fun hH => ?_)
  refine wpAnyH_take (i := 0) (v := ?_) (List.getElem?_toArray.trans rfl) (by kernel_rfl) (by kernel_rfl) (by kernel_rfl) (fun _ _ _ h => h) (Or.inl ⟨by rfl, ?_⟩) (by assumption) ?_
  rotate_left
  · (intro w hSw; obtain ⟨h1, h2, h3⟩ := hSw; go_simp; try (with_reducible rfl))
  simp only [Act.put, List.setIfInBounds_toArray, List.set_cons_zero, List.set_cons_succ]
  refine wpAnyH_take (i := 1) (v := ?_) (List.getElem?_toArray.trans rfl) (by kernel_rfl) (by kernel_rfl) (by kernel_rfl) (fun _ _ _ h => h) (Or.inl ⟨by rfl, ?_⟩) (by assumption) ?_
  rotate_left
  · (intro w hSw; obtain ⟨h1, h2, h3⟩ := hSw; go_simp; try (with_reducible rfl))
  simp only [Act.put, List.setIfInBounds_toArray, List.set_cons_zero, List.set_cons_succ]
  refine wpAnyH_ready (rs := [2]) (by kernel_rfl) (by simp) ?_
  refine AllReadyH.cons (List.getElem?_toArray.trans rfl) (fun K3 hK3 => ?_) AllReadyH.nil
  go_simp
  refine (ones_any _).mono ?_
  rintro e waB ⟨gaB, rfl, oaB, hbaB⟩
  have laB := lDB.below hbaB
  have daB := dDB.below hbaB
  have hgaB : ¬ Fd gaB := own_far dDB oaB (Nat.le_refl _)
  have cCB := commit_lit1 daB oaB hgaB 1 hrB
  have lbB := laB.below (w' := waB.alloc (.cells #[.int .i64 1, .slice (some ⟨gaB, 0, none⟩) 64 64] 49)) ((Below.refl _ _).alloc (Nat.le_refl _) _)
  dsimp only
  refine hK3.out _ _ ⟨laB.c0, laB.c1, laB.c2⟩ (fun hHaB => ?_)
  clear hK3 K3
  refine wpAnyH_take (i := 3) (v := ?_) (List.getElem?_toArray.trans rfl) (by kernel_rfl) (by kernel_rfl) (by kernel_rfl) (fun _ _ _ h => h) (Or.inl ⟨by rfl, ?_⟩) (by assumption) ?_
  rotate_left
  · (intro w hSw; obtain ⟨h1, h2, h3⟩ := hSw; go_simp; try (with_reducible rfl))
  simp only [Act.put, List.setIfInBounds_toArray, List.set_cons_zero, List.set_cons_succ]
  refine wpAnyH_ready (rs := [4]) (by kernel_rfl) (by simp) ?_
  refine AllReadyH.cons (List.getElem?_toArray.trans rfl) (fun K3 hK3 => ?_) AllReadyH.nil
  go_simp
  refine hK3.out _ _ ⟨lbB.c0, lbB.c1, lbB.c2⟩ (fun hHeldbB => ?_)
  clear hK3 K3
  refine wpAnyH_ready (rs := [5]) (by kernel_rfl) (by simp) ?_
  refine AllReadyH.cons (List.getElem?_toArray.trans rfl) (fun K3 hK3 => ?_) AllReadyH.nil
  go_simp
  refine (cCB).mono ?_
  rintro e wcB ⟨rfl, FcB, dcB, gcB⟩
  have lcB := laB.goes gcB (fun hf => by have := bFd _ hf; omega)
  dsimp only
  refine hK3.out _ _ ⟨lcB.c0, lcB.c1, lcB.c2⟩ (fun hHcB => ?_)
  clear hK3 K3
  refine wpAnyH_ready (rs := [6]) (by kernel_rfl) (by simp) ?_
  refine AllReadyH.cons (List.getElem?_toArray.trans rfl) (fun K3 hK3 => ?_) AllReadyH.nil
  go_simp
  refine hK3.out _ _ ⟨lcB.c0, lcB.c1, lcB.c2⟩ (fun hHelddB => ?_)
  clear hK3 K3
  refine wpAnyH_done (by kernel_rfl) ?_ _
  have ggB := (Goes.of_below (F := Fd) (below_drew (Below.refl _ wd))).trans ((Goes.of_below (F := Fd) hbaB).trans gcB)
  have bFB := goes_bound ggB bFd bd9
  clear hH hHaB hHeldbB hHcB hHelddB dDB lDB laB daB lbB cCB oaB hgaB hbaB gcB
  rw [sw_e3 Sd nd]
  have k1 := cell_goes ggB gid hgd j1
  have k2 := cell_goes ggB gid hgd j2
  have HGE := hid (HGD.out.trans ggB)
  obtain ⟨y0, y1, y2⟩ := And.intro lcB.c0 (And.intro lcB.c1 lcB.c2)
  have ly := lcB.lt
  clear j1 j2 dd ld ggB
  have r6 : rightG ⟨1, 2, 2⟩ 6 = true := by decide +kernel
  have r5 : rightG ⟨1, 2, 2⟩ 5 = false := by decide +kernel
  have m5 : mineG ⟨1, 2, 2⟩ 5 = true := by decide +kernel
  have g5 : Rg 5 := by unfold Rg; omega
  have g6 : Rg 6 := by unfold Rg; omega
  have c6 := wright_any 1 2 2 6 wcB lg_ok g6
  rw [r6] at c6
  go_wp2_with (first
    | (go_at_call 23; with_reducible refine c6.mono ?_; rintro e x1 ⟨rfl, hx1⟩; have hl1 := lcB.below hx1; obtain ⟨v0, v1, v2⟩ := And.intro hl1.c0 (And.intro hl1.c1 hl1.c2); have c5 := wright_any 1 2 2 5 x1 lg_ok g5; rw [r5] at c5)
    | (go_at_call 23; with_reducible refine c5.mono ?_; rintro e x2 ⟨rfl, hx2⟩; have hl2 := hl1.below hx2; obtain ⟨u0, u1, u2⟩ := And.intro hl2.c0 (And.intro hl2.c1 hl2.c2); have cm := mine_any 1 2 2 5 x2 lg_ok g5; rw [m5] at cm)
    | (go_at_call 24; with_reducible refine cm.mono ?_; rintro e x3 ⟨rfl, hx3⟩))
  go_ret
  have hE := HGE.out.off.below (B := w.heap.size) (fun j hj => by have := hF0z.out j hj; omega) (by omega)
  exact ⟨rfl, (HB2.out.trans hE).trans ((next (next hx1 hx2) hx3).mono (by omega))⟩
end Go.Proofs.YtgiippbjieecmaaGreat
