/- wal.Commit by its contract. -/
import Derived.Test.YtgiippbjieecmaaRunP
import Derived.Deep.DeepCutAuto
namespace Go.Proofs.Ytgiippbjieecmaa
set_option maxRecDepth 100000
open Go.RowKit
set_option linter.unusedVariables false

def comS (g : Lg) (l : List Chg) : List Stp := (keepS g.first.toNat (recsL l) ++ keepS g.mark.toNat (markL (recsL l))) ++ finS g.mark.toNat l
/-- May there be steps? -/
def comB (n : Nat) (g : Lg) (l : List Chg) : Bool := rightG g n && rightL n l
def commitE (S : St) (g : Lg) (l : List Chg) : Int := if comB S.n g l = true then (if writeE g l = 0 ∧ l ≠ [] then runE S (comS g l) else writeE g l) else 1
def commitS (S : St) (g : Lg) (l : List Chg) : St := if comB S.n g l = true ∧ writeE g l = 0 ∧ l ≠ [] then runS S (comS g l) else S
theorem commit_arg {S : St} {g : Lg} {l : List Chg} (h : comB S.n g l = false) : commitE S g l = 1 ∧ commitS S g l = S := by
  unfold commitE commitS
  rw [h]
  exact ⟨if_neg (by simp), if_neg (by simp)⟩
theorem commit_same {S : St} {g : Lg} {l : List Chg} (h : comB S.n g l = true) (hw : ¬ (writeE g l = 0 ∧ l ≠ [])) : commitE S g l = writeE g l ∧ commitS S g l = S := by
  unfold commitE commitS
  rw [if_pos h, if_neg hw, if_neg (fun e => hw e.2)]
  exact ⟨rfl, rfl⟩
theorem commit_runs {S : St} {g : Lg} {l : List Chg} (h : comB S.n g l = true) (h1 : writeE g l = 0) (h2 : l ≠ []) : commitE S g l = runE S (comS g l) ∧ commitS S g l = runS S (comS g l) := by
  unfold commitE commitS
  rw [if_pos h, if_pos ⟨h1, h2⟩, if_pos ⟨h, h1, h2⟩]
  exact ⟨rfl, rfl⟩

theorem steps_new {w : World} {F : Nat → Prop} {p : Nat} {S : St} (hd : Dev w F p S) : StepsAt (w.alloc (.cells #[.pointer (some ⟨p, 0, none⟩), .slice none 0 0] 82)) F (fun _ => False) w.heap.size p none 0 0 [] [] :=
  ⟨heap_alloc_new w _, World.ownsRow_nil _ _ _ _, rfl, rfl, (fun i x v h => by simp at h), (fun v h => by cases h), fun _ h => h.elim, hd.bound⟩
theorem logCells (w : World) (M F R : Int) : (w.alloc (.cells #[.int .i64 M, .int .i64 F, .int .i64 R] 23)).cell? ⟨w.heap.size, 0, none⟩ = some (.int .i64 M) ∧ (w.alloc (.cells #[.int .i64 M, .int .i64 F, .int .i64 R] 23)).cell? ⟨w.heap.size, 1, none⟩ = some (.int .i64 F) ∧ (w.alloc (.cells #[.int .i64 M, .int .i64 F, .int .i64 R] 23)).cell? ⟨w.heap.size, 2, none⟩ = some (.int .i64 R) := by simp
/-- A log's cells. -/
structure LogAt (w : World) (b : Nat) (M F R : Int) : Prop where
  lt : b < w.heap.size
  c0 : w.cell? ⟨b, 0, none⟩ = some (.int .i64 M)
  c1 : w.cell? ⟨b, 1, none⟩ = some (.int .i64 F)
  c2 : w.cell? ⟨b, 2, none⟩ = some (.int .i64 R)
theorem logAt_new (w : World) (M F R : Int) : LogAt (w.alloc (.cells #[.int .i64 M, .int .i64 F, .int .i64 R] 23)) w.heap.size M F R := ⟨by simp, by simp, by simp, by simp⟩
theorem LogAt.upto {w w' : World} {b B : Nat} {M F R : Int} (h : LogAt w b M F R) (hb : Below B w w') (hl : b < B) : LogAt w' b M F R :=
  ⟨Nat.lt_of_lt_of_le h.lt hb.size, (hb.cell (p := ⟨b, 0, none⟩) hl).trans h.c0, (hb.cell (p := ⟨b, 1, none⟩) hl).trans h.c1, (hb.cell (p := ⟨b, 2, none⟩) hl).trans h.c2⟩
theorem LogAt.below {w w' : World} {b : Nat} {M F R : Int} (h : LogAt w b M F R) (hb : Below w.heap.size w w') : LogAt w' b M F R := h.upto hb h.lt

set_option maxHeartbeats 3200000 in
theorem commit_bad {w : World} {F : Nat → Prop} {p : Nat} {S : St} (hd : Dev w F p S) (M F1 R : Int) (lo : Option Addr) (m lc : Nat) (D : Nat → ChD) (hg : (Lg.mk M F1 R).Ok) (h : Chs w lo m D) (hB : comB S.n ⟨M, F1, R⟩ (saysN D m) = false) :
    Calls Try.prog 25 #[.pointer (some ⟨p, 0, none⟩), .agg #[.int .i64 M, .int .i64 F1, .int .i64 R], .slice lo m lc] w fun e w' => e = .returned (.int .i64 1) ∧ Below w.heap.size w w' := by
  have hbA := (Below.refl w.heap.size w).alloc (Nat.le_refl _) (.cells #[.int .i64 M, .int .i64 F1, .int .i64 R] 23)
  have hbD := below_drew hbA
  have hLg := logAt_new w M F1 R
  obtain ⟨c0, c1, c2⟩ := logCells w M F1 R
  have hdD := hd.below hbD
  have hN : Rg (S.n : Int) := by have := hd.ok.n1; unfold Rg; omega
  have cL := lines_any hdD
  have cR := wright_any M F1 R S.n (w.alloc (.cells #[.int .i64 M, .int .i64 F1, .int .i64 R] 23)).drew hg hN
  have eB : rightB S.n D m = rightL S.n (saysN D m) := rightB_eq _ _ _
  have hkD := h.below hbD
  have HD := hid hdD
  have HK := hid hkD
  have hb1 : Below w.heap.size w (w.alloc (.cells #[.int .i64 M, .int .i64 F1, .int .i64 R] 23)).drew := hbD
  clear hd h hkD hdD hbA
  cases h1 : rightG ⟨M, F1, R⟩ S.n with
  | false =>
    rw [h1] at cR
    clear hB eB
    go_enter Try.func25, Try.ntmps25
    go_upto_region 1 with fail
    refine wp_region_held_drew (S := fun w' => w'.cell? ⟨w.heap.size, 0, none⟩ = some (.int .i64 M) ∧ w'.cell? ⟨w.heap.size, 1, none⟩ = some (.int .i64 F1) ∧ w'.cell? ⟨w.heap.size, 2, none⟩ = some (.int .i64 R)) (by kernel_rfl) ⟨c0, c1, c2⟩ (fun hH => ?_)
    refine wpAnyH_take (i := 0) (v := ?_) (List.getElem?_toArray.trans rfl) (by kernel_rfl) (by kernel_rfl) (by kernel_rfl) (fun _ _ _ h => h) (Or.inl ⟨by rfl, ?_⟩) (by assumption) ?_
    rotate_left
    · (intro w hSw; obtain ⟨h1, h2, h3⟩ := hSw; go_simp; try (with_reducible rfl))
    simp only [Act.put, List.setIfInBounds_toArray, List.set_cons_zero, List.set_cons_succ]
    refine wpAnyH_take (i := 1) (v := ?_) (List.getElem?_toArray.trans rfl) (by kernel_rfl) (by kernel_rfl) (by kernel_rfl) (fun _ _ _ h => h) (Or.inl ⟨by rfl, ?_⟩) (by assumption) ?_
    rotate_left
    · (intro w hSw; obtain ⟨h1, h2, h3⟩ := hSw; go_simp; try (with_reducible rfl))
    simp only [Act.put, List.setIfInBounds_toArray, List.set_cons_zero, List.set_cons_succ]
    refine wpAnyH_ready (rs := [2]) (by kernel_rfl) (by simp) ?_
    refine AllReadyH.cons (List.getElem?_toArray.trans rfl) (fun K3 hK3 => ?_) AllReadyH.nil
    go_simp
    refine (cL).mono ?_
    rintro e w' ⟨rfl, rfl⟩
    dsimp only
    refine hK3.out _ _ ⟨c0, c1, c2⟩ (fun hHeld3 => ?_)
    clear hK3 K3
    refine wpAnyH_ready (rs := [3]) (by kernel_rfl) (by simp) ?_
    refine AllReadyH.cons (List.getElem?_toArray.trans rfl) (fun K3 hK3 => ?_) AllReadyH.nil
    go_simp
    refine (cR).mono ?_
    rintro e w3 ⟨rfl, hb3⟩
    have hL3 := hLg.below (w' := w3) (next (below_drew (Below.refl _ _)) hb3)
    have hb4 := next hb1 hb3
    dsimp only
    refine hK3.out _ _ ⟨hL3.c0, hL3.c1, hL3.c2⟩ (fun hHeld3 => ?_)
    clear hK3 K3
    refine wpAnyH_take (i := 4) (v := ?_) (List.getElem?_toArray.trans rfl) (by kernel_rfl) (by kernel_rfl) (by kernel_rfl) (fun _ _ _ h => h) (Or.inl ⟨by rfl, ?_⟩) (by assumption) ?_
    rotate_left
    · (intro w hSw; obtain ⟨h1, h2, h3⟩ := hSw; go_simp; try (with_reducible rfl))
    simp only [Act.put, List.setIfInBounds_toArray, List.set_cons_zero, List.set_cons_succ]
    refine wpAnyH_take (i := 5) (v := ?_) (List.getElem?_toArray.trans rfl) (by kernel_rfl) (by kernel_rfl) (by kernel_rfl) (fun _ _ _ h => h) (Or.inl ⟨by rfl, ?_⟩) (by assumption) ?_
    rotate_left
    · (intro w hSw; obtain ⟨h1, h2, h3⟩ := hSw; go_simp; try (with_reducible rfl))
    simp only [Act.put, List.setIfInBounds_toArray, List.set_cons_zero, List.set_cons_succ]
    refine wpAnyH_take (i := 6) (v := undef) (List.getElem?_toArray.trans rfl) (by kernel_rfl) (by kernel_rfl) (by kernel_rfl) (fun _ _ _ h => h) (Or.inr ⟨by rfl, rfl⟩) (by assumption) ?_
    simp only [Act.put, List.setIfInBounds_toArray, List.set_cons_zero, List.set_cons_succ]
    refine wpAnyH_take (i := 7) (v := undef) (List.getElem?_toArray.trans rfl) (by kernel_rfl) (by kernel_rfl) (by kernel_rfl) (fun _ _ _ h => h) (Or.inr ⟨by rfl, rfl⟩) (by assumption) ?_
    simp only [Act.put, List.setIfInBounds_toArray, List.set_cons_zero, List.set_cons_succ]
    refine wpAnyH_take (i := 8) (v := undef) (List.getElem?_toArray.trans rfl) (by kernel_rfl) (by kernel_rfl) (by kernel_rfl) (fun _ _ _ h => h) (Or.inr ⟨by rfl, rfl⟩) (by assumption) ?_
    simp only [Act.put, List.setIfInBounds_toArray, List.set_cons_zero, List.set_cons_succ]
    refine wpAnyH_take (i := 9) (v := undef) (List.getElem?_toArray.trans rfl) (by kernel_rfl) (by kernel_rfl) (by kernel_rfl) (fun _ _ _ h => h) (Or.inr ⟨by rfl, rfl⟩) (by assumption) ?_
    simp only [Act.put, List.setIfInBounds_toArray, List.set_cons_zero, List.set_cons_succ]
    refine wpAnyH_take (i := 10) (v := undef) (List.getElem?_toArray.trans rfl) (by kernel_rfl) (by kernel_rfl) (by kernel_rfl) (fun _ _ _ h => h) (Or.inr ⟨by rfl, rfl⟩) (by assumption) ?_
    simp only [Act.put, List.setIfInBounds_toArray, List.set_cons_zero, List.set_cons_succ]
    refine wpAnyH_take (i := 11) (v := ?_) (List.getElem?_toArray.trans rfl) (by kernel_rfl) (by kernel_rfl) (by kernel_rfl) (fun _ _ _ h => h) (Or.inl ⟨by rfl, ?_⟩) (by assumption) ?_
    rotate_left
    · (intro w hSw; obtain ⟨h1, h2, h3⟩ := hSw; go_simp; try (with_reducible rfl))
    simp only [Act.put, List.setIfInBounds_toArray, List.set_cons_zero, List.set_cons_succ]
    refine wpAnyH_done (by kernel_rfl) ?_ _
    go_wp2
    go_ret
    exact ⟨rfl, hb4⟩
  | true =>
    rw [h1] at cR
    have h2 : rightB S.n D m = false := by
      rw [eB]
      unfold comB at hB
      rw [h1] at hB
      simpa using hB
    clear hB eB
    go_enter Try.func25, Try.ntmps25
    go_upto_region 1 with fail
    refine wp_region_held_drew (S := fun w' => w'.cell? ⟨w.heap.size, 0, none⟩ = some (.int .i64 M) ∧ w'.cell? ⟨w.heap.size, 1, none⟩ = some (.int .i64 F1) ∧ w'.cell? ⟨w.heap.size, 2, none⟩ = some (.int .i64 R)) (by kernel_rfl) ⟨c0, c1, c2⟩ (fun hH => ?_)
    refine wpAnyH_take (i := 0) (v := ?_) (List.getElem?_toArray.trans rfl) (by kernel_rfl) (by kernel_rfl) (by kernel_rfl) (fun _ _ _ h => h) (Or.inl ⟨by rfl, ?_⟩) (by assumption) ?_
    rotate_left
    · (intro w hSw; obtain ⟨h1, h2, h3⟩ := hSw; go_simp; try (with_reducible rfl))
    simp only [Act.put, List.setIfInBounds_toArray, List.set_cons_zero, List.set_cons_succ]
    refine wpAnyH_take (i := 1) (v := ?_) (List.getElem?_toArray.trans rfl) (by kernel_rfl) (by kernel_rfl) (by kernel_rfl) (fun _ _ _ h => h) (Or.inl ⟨by rfl, ?_⟩) (by assumption) ?_
    rotate_left
    · (intro w hSw; obtain ⟨h1, h2, h3⟩ := hSw; go_simp; try (with_reducible rfl))
    simp only [Act.put, List.setIfInBounds_toArray, List.set_cons_zero, List.set_cons_succ]
    refine wpAnyH_ready (rs := [2]) (by kernel_rfl) (by simp) ?_
    refine AllReadyH.cons (List.getElem?_toArray.trans rfl) (fun K3 hK3 => ?_) AllReadyH.nil
    go_simp
    refine (cL).mono ?_
    rintro e w' ⟨rfl, rfl⟩
    dsimp only
    refine hK3.out _ _ ⟨c0, c1, c2⟩ (fun hHeld3 => ?_)
    clear hK3 K3
    refine wpAnyH_ready (rs := [3]) (by kernel_rfl) (by simp) ?_
    refine AllReadyH.cons (List.getElem?_toArray.trans rfl) (fun K3 hK3 => ?_) AllReadyH.nil
    go_simp
    refine (cR).mono ?_
    rintro e w3 ⟨rfl, hb3⟩
    have hL3 := hLg.below (w' := w3) (next (below_drew (Below.refl _ _)) hb3)
    have hb4 := next hb1 hb3
    have cL3 := lines_any (HD.out.below hb3)
    have cK3 := right_any S.n lo m lc D w3 (HK.out.below hb3)
    rw [h2] at cK3
    dsimp only
    refine hK3.out _ _ ⟨hL3.c0, hL3.c1, hL3.c2⟩ (fun hHeld3 => ?_)
    clear hK3 K3
    refine wpAnyH_take (i := 4) (v := ?_) (List.getElem?_toArray.trans rfl) (by kernel_rfl) (by kernel_rfl) (by kernel_rfl) (fun _ _ _ h => h) (Or.inl ⟨by rfl, ?_⟩) (by assumption) ?_
    rotate_left
    · (intro w hSw; obtain ⟨h1, h2, h3⟩ := hSw; go_simp; try (with_reducible rfl))
    simp only [Act.put, List.setIfInBounds_toArray, List.set_cons_zero, List.set_cons_succ]
    refine wpAnyH_take (i := 5) (v := ?_) (List.getElem?_toArray.trans rfl) (by kernel_rfl) (by kernel_rfl) (by kernel_rfl) (fun _ _ _ h => h) (Or.inl ⟨by rfl, ?_⟩) (by assumption) ?_
    rotate_left
    · (intro w hSw; obtain ⟨h1, h2, h3⟩ := hSw; go_simp; try (with_reducible rfl))
    simp only [Act.put, List.setIfInBounds_toArray, List.set_cons_zero, List.set_cons_succ]
    refine wpAnyH_take (i := 6) (v := ?_) (List.getElem?_toArray.trans rfl) (by kernel_rfl) (by kernel_rfl) (by kernel_rfl) (fun _ _ _ h => h) (Or.inl ⟨by rfl, ?_⟩) (by assumption) ?_
    rotate_left
    · (intro w hSw; obtain ⟨h1, h2, h3⟩ := hSw; go_simp; try (with_reducible rfl))
    simp only [Act.put, List.setIfInBounds_toArray, List.set_cons_zero, List.set_cons_succ]
    refine wpAnyH_take (i := 8) (v := ?_) (List.getElem?_toArray.trans rfl) (by kernel_rfl) (by kernel_rfl) (by kernel_rfl) (fun _ _ _ h => h) (Or.inl ⟨by rfl, ?_⟩) (by assumption) ?_
    rotate_left
    · (intro w hSw; obtain ⟨h1, h2, h3⟩ := hSw; go_simp; try (with_reducible rfl))
    simp only [Act.put, List.setIfInBounds_toArray, List.set_cons_zero, List.set_cons_succ]
    refine wpAnyH_ready (rs := [7]) (by kernel_rfl) (by simp) ?_
    refine AllReadyH.cons (List.getElem?_toArray.trans rfl) (fun K3 hK3 => ?_) AllReadyH.nil
    go_simp
    refine (cL3).mono ?_
    rintro e w' ⟨rfl, rfl⟩
    dsimp only
    refine hK3.out _ _ (by assumption) (fun hHeld5 => ?_)
    clear hK3 K3
    refine wpAnyH_ready (rs := [9]) (by kernel_rfl) (by simp) ?_
    refine AllReadyH.cons (List.getElem?_toArray.trans rfl) (fun K3 hK3 => ?_) AllReadyH.nil
    go_simp
    refine (cK3).mono ?_
    rintro e w5 ⟨rfl, hb5⟩
    have hL5 := hL3.below hb5
    have hb6 := next hb4 hb5
    dsimp only
    refine hK3.out _ _ ⟨hL5.c0, hL5.c1, hL5.c2⟩ (fun hHeld6 => ?_)
    clear hK3 K3
    refine wpAnyH_take (i := 10) (v := ?_) (List.getElem?_toArray.trans rfl) (by kernel_rfl) (by kernel_rfl) (by kernel_rfl) (fun _ _ _ h => h) (Or.inl ⟨by rfl, ?_⟩) (by assumption) ?_
    rotate_left
    · (intro w hSw; obtain ⟨h1, h2, h3⟩ := hSw; go_simp; try (with_reducible rfl))
    simp only [Act.put, List.setIfInBounds_toArray, List.set_cons_zero, List.set_cons_succ]
    refine wpAnyH_take (i := 11) (v := ?_) (List.getElem?_toArray.trans rfl) (by kernel_rfl) (by kernel_rfl) (by kernel_rfl) (fun _ _ _ h => h) (Or.inl ⟨by rfl, ?_⟩) (by assumption) ?_
    rotate_left
    · (intro w hSw; obtain ⟨h1, h2, h3⟩ := hSw; go_simp; try (with_reducible rfl))
    simp only [Act.put, List.setIfInBounds_toArray, List.set_cons_zero, List.set_cons_succ]
    refine wpAnyH_done (by kernel_rfl) ?_ _
    go_wp2
    go_ret
    exact ⟨rfl, hb6⟩
set_option maxHeartbeats 3200000 in
/-- Write's error, or nothing to do. -/
theorem commit_idle {w : World} {F : Nat → Prop} {p : Nat} {S : St} (hd : Dev w F p S) (M F1 R : Int) (lo : Option Addr) (m lc : Nat) (D : Nat → ChD) (hg : (Lg.mk M F1 R).Ok) (h : Chs w lo m D) (hB : comB S.n ⟨M, F1, R⟩ (saysN D m) = true) (hW : ¬ (writeE ⟨M, F1, R⟩ (saysN D m) = 0 ∧ 0 < m)) :
    Calls Try.prog 25 #[.pointer (some ⟨p, 0, none⟩), .agg #[.int .i64 M, .int .i64 F1, .int .i64 R], .slice lo m lc] w fun e w' => e = .returned (.int .i64 (writeE ⟨M, F1, R⟩ (saysN D m))) ∧ Below w.heap.size w w' := by
  have hbA := (Below.refl w.heap.size w).alloc (Nat.le_refl _) (.cells #[.int .i64 M, .int .i64 F1, .int .i64 R] 23)
  have hbD := below_drew hbA
  have hLg := logAt_new w M F1 R
  obtain ⟨c0, c1, c2⟩ := logCells w M F1 R
  have hdD := hd.below hbD
  have hN : Rg (S.n : Int) := by have := hd.ok.n1; unfold Rg; omega
  have cL := lines_any hdD
  have cR := wright_any M F1 R S.n (w.alloc (.cells #[.int .i64 M, .int .i64 F1, .int .i64 R] 23)).drew hg hN
  have hkD := h.below hbD
  have HD := hid hdD
  have HK := hid hkD
  have hb1 : Below w.heap.size w (w.alloc (.cells #[.int .i64 M, .int .i64 F1, .int .i64 R] 23)).drew := hbD
  have h12 : rightG ⟨M, F1, R⟩ S.n = true ∧ rightL S.n (saysN D m) = true := by unfold comB at hB; simpa using hB
  obtain ⟨h1, h2'⟩ := h12
  have h2 : rightB S.n D m = true := by rw [rightB_eq]; exact h2'
  have hm9 := h.fit
  rw [h1] at cR
  clear hd hkD hdD hbA hB h2' h1 h
  obtain ⟨E, hE⟩ : ∃ E, E = writeE ⟨M, F1, R⟩ (saysN D m) := ⟨_, rfl⟩
  rw [← hE] at hW ⊢
  have HE := hid hE
  have HR := hid hW
  clear hE hW
  go_enter Try.func25, Try.ntmps25
  go_upto_region 1 with fail
  refine wp_region_held_drew (S := fun w' => w'.cell? ⟨w.heap.size, 0, none⟩ = some (.int .i64 M) ∧ w'.cell? ⟨w.heap.size, 1, none⟩ = some (.int .i64 F1) ∧ w'.cell? ⟨w.heap.size, 2, none⟩ = some (.int .i64 R)) (by kernel_rfl) ⟨c0, c1, c2⟩ (fun hH => ?_)
  refine wpAnyH_take (i := 0) (v := ?_) (List.getElem?_toArray.trans rfl) (by kernel_rfl) (by kernel_rfl) (by kernel_rfl) (fun _ _ _ h => h) (Or.inl ⟨by rfl, ?_⟩) (by assumption) ?_
  rotate_left
  · (intro w hSw; obtain ⟨h1, h2, h3⟩ := hSw; go_simp; try (with_reducible rfl))
  simp only [Act.put, List.setIfInBounds_toArray, List.set_cons_zero, List.set_cons_succ]
  refine wpAnyH_take (i := 1) (v := ?_) (List.getElem?_toArray.trans rfl) (by kernel_rfl) (by kernel_rfl) (by kernel_rfl) (fun _ _ _ h => h) (Or.inl ⟨by rfl, ?_⟩) (by assumption) ?_
  rotate_left
  · (intro w hSw; obtain ⟨h1, h2, h3⟩ := hSw; go_simp; try (with_reducible rfl))
  simp only [Act.put, List.setIfInBounds_toArray, List.set_cons_zero, List.set_cons_succ]
  refine wpAnyH_ready (rs := [2]) (by kernel_rfl) (by simp) ?_
  refine AllReadyH.cons (List.getElem?_toArray.trans rfl) (fun K3 hK3 => ?_) AllReadyH.nil
  go_simp
  refine (cL).mono ?_
  rintro e w' ⟨rfl, rfl⟩
  dsimp only
  refine hK3.out _ _ ⟨c0, c1, c2⟩ (fun hHeld3 => ?_)
  clear hK3 K3
  refine wpAnyH_ready (rs := [3]) (by kernel_rfl) (by simp) ?_
  refine AllReadyH.cons (List.getElem?_toArray.trans rfl) (fun K3 hK3 => ?_) AllReadyH.nil
  go_simp
  refine (cR).mono ?_
  rintro e w3 ⟨rfl, hb3⟩
  have hL3 := hLg.below (w' := w3) (next (below_drew (Below.refl _ _)) hb3)
  have hb4 := next hb1 hb3
  have cL3 := lines_any (HD.out.below hb3)
  have cK3 := right_any S.n lo m lc D w3 (HK.out.below hb3)
  rw [h2] at cK3
  dsimp only
  refine hK3.out _ _ ⟨hL3.c0, hL3.c1, hL3.c2⟩ (fun hHeld3 => ?_)
  clear hK3 K3
  refine wpAnyH_take (i := 4) (v := ?_) (List.getElem?_toArray.trans rfl) (by kernel_rfl) (by kernel_rfl) (by kernel_rfl) (fun _ _ _ h => h) (Or.inl ⟨by rfl, ?_⟩) (by assumption) ?_
  rotate_left
  · (intro w hSw; obtain ⟨h1, h2, h3⟩ := hSw; go_simp; try (with_reducible rfl))
  simp only [Act.put, List.setIfInBounds_toArray, List.set_cons_zero, List.set_cons_succ]
  refine wpAnyH_take (i := 5) (v := ?_) (List.getElem?_toArray.trans rfl) (by kernel_rfl) (by kernel_rfl) (by kernel_rfl) (fun _ _ _ h => h) (Or.inl ⟨by rfl, ?_⟩) (by assumption) ?_
  rotate_left
  · (intro w hSw; obtain ⟨h1, h2, h3⟩ := hSw; go_simp; try (with_reducible rfl))
  simp only [Act.put, List.setIfInBounds_toArray, List.set_cons_zero, List.set_cons_succ]
  refine wpAnyH_take (i := 6) (v := ?_) (List.getElem?_toArray.trans rfl) (by kernel_rfl) (by kernel_rfl) (by kernel_rfl) (fun _ _ _ h => h) (Or.inl ⟨by rfl, ?_⟩) (by assumption) ?_
  rotate_left
  · (intro w hSw; obtain ⟨h1, h2, h3⟩ := hSw; go_simp; try (with_reducible rfl))
  simp only [Act.put, List.setIfInBounds_toArray, List.set_cons_zero, List.set_cons_succ]
  refine wpAnyH_take (i := 8) (v := ?_) (List.getElem?_toArray.trans rfl) (by kernel_rfl) (by kernel_rfl) (by kernel_rfl) (fun _ _ _ h => h) (Or.inl ⟨by rfl, ?_⟩) (by assumption) ?_
  rotate_left
  · (intro w hSw; obtain ⟨h1, h2, h3⟩ := hSw; go_simp; try (with_reducible rfl))
  simp only [Act.put, List.setIfInBounds_toArray, List.set_cons_zero, List.set_cons_succ]
  refine wpAnyH_ready (rs := [7]) (by kernel_rfl) (by simp) ?_
  refine AllReadyH.cons (List.getElem?_toArray.trans rfl) (fun K3 hK3 => ?_) AllReadyH.nil
  go_simp
  refine (cL3).mono ?_
  rintro e w' ⟨rfl, rfl⟩
  dsimp only
  refine hK3.out _ _ (by assumption) (fun hHeld5 => ?_)
  clear hK3 K3
  refine wpAnyH_ready (rs := [9]) (by kernel_rfl) (by simp) ?_
  refine AllReadyH.cons (List.getElem?_toArray.trans rfl) (fun K3 hK3 => ?_) AllReadyH.nil
  go_simp
  refine (cK3).mono ?_
  rintro e w5 ⟨rfl, hb5⟩
  have hL5 := hL3.below hb5
  have hb6 := next hb4 hb5
  dsimp only
  refine hK3.out _ _ ⟨hL5.c0, hL5.c1, hL5.c2⟩ (fun hHeld6 => ?_)
  clear hK3 K3
  refine wpAnyH_take (i := 10) (v := ?_) (List.getElem?_toArray.trans rfl) (by kernel_rfl) (by kernel_rfl) (by kernel_rfl) (fun _ _ _ h => h) (Or.inl ⟨by rfl, ?_⟩) (by assumption) ?_
  rotate_left
  · (intro w hSw; obtain ⟨h1, h2, h3⟩ := hSw; go_simp; try (with_reducible rfl))
  simp only [Act.put, List.setIfInBounds_toArray, List.set_cons_zero, List.set_cons_succ]
  refine wpAnyH_take (i := 11) (v := ?_) (List.getElem?_toArray.trans rfl) (by kernel_rfl) (by kernel_rfl) (by kernel_rfl) (fun _ _ _ h => h) (Or.inl ⟨by rfl, ?_⟩) (by assumption) ?_
  rotate_left
  · (intro w hSw; obtain ⟨h1, h2, h3⟩ := hSw; go_simp; try (with_reducible rfl))
  simp only [Act.put, List.setIfInBounds_toArray, List.set_cons_zero, List.set_cons_succ]
  refine wpAnyH_done (by kernel_rfl) ?_ _
  have hd5 := HD.out.below (next hb3 hb5)
  have hk5 := HK.out.below (next hb3 hb5)
  obtain ⟨x0, x1, x2⟩ : w5.cell? ⟨w.heap.size, 0, none⟩ = some (.int .i64 M) ∧ w5.cell? ⟨w.heap.size, 1, none⟩ = some (.int .i64 F1) ∧ w5.cell? ⟨w.heap.size, 2, none⟩ = some (.int .i64 R) := ⟨hL5.c0, hL5.c1, hL5.c2⟩
  clear hHeld6 hHeld5 hHeld3 hH hL3 hb3 hb4 hb5 cL3 cL cR c0 c1 c2 hb1 hbD HD HK hLg
  have cW := write_any M F1 R lo m lc D w5 hg hk5
  rw [← HE.out] at cW
  clear hk5 hd5 hL5 cK3 h2 HE hg
  by_cases hz : E = 0
  · have hm0 : m = 0 := by have := HR.out; omega
    subst hz hm0
    go_wp2_with (go_at_call 10; with_reducible refine cW.mono ?_; rintro e w7 ⟨ao, na, ca, bo, nb, cb, rfl, oa, om, hne, hb7⟩; have hb8 := next hb6 hb7)
    go_ret
    exact ⟨rfl, hb8⟩
  · have hz' : (E != 0) = true := by simpa using hz
    go_wp2_with (go_at_call 10; with_reducible refine cW.mono ?_; rintro e w7 ⟨ao, na, ca, bo, nb, cb, rfl, oa, om, hne, hb7⟩; have hb8 := next hb6 hb7)
    go_ret
    exact ⟨rfl, hb8⟩

theorem com_eq {fi mk na : Nat} {R : Int} {l : List Chg} (hl : (recsL l).length = na) : (([] ++ [Stp.st (fi * 64) (recsL l), .fl (fi * 64) na, .fe]) ++ [.st (mk * 64) (markL (recsL l)), .fl (mk * 64) 64, .fe]) ++ finS mk l = comS ⟨mk, fi, R⟩ l := by
  unfold comS keepS
  simp only [Int.toNat_natCast, markL_length, hl, List.nil_append]
/-- What is known while the steps are laid out: w: where Commit began; w7: where they begin. -/
structure Com (w w7 : World) (F : Nat → Prop) (p : Nat) (S : St) (gb mk fi : Nat) (R : Int) (lo : Option Addr) (m : Nat) (D : Nat → ChD) (ao : Option Addr) (na ca : Nat) (bo : Option Addr) (cb : Nat) : Prop where
  d : Dev w7 F p S
  k : Chs w7 lo m D
  l : LogAt w7 gb mk fi R
  b : Below w.heap.size w w7
  oa : Own .u8 5 0 w7 ao na ca (recsL (saysN D m))
  om : Own .u8 5 0 w7 bo 64 cb (markL (recsL (saysN D m)))
  na' : ∀ c, ao = some c → c.block < w7.heap.size ∧ ¬ F c.block
  nm : ∀ c, bo = some c → c.block < w7.heap.size ∧ ¬ F c.block
  mem : ∀ i, i < m → 0 ≤ (D i).line ∧ (D i).line ≤ 4096
  byt : Bytes (recsL (saysN D m))
  m4 : m ≤ 4096
  no : ∀ i, i < m → 0 < (D i).bl → ∀ c, (D i).ba = some c → ¬ F c.block
theorem commit_begin {w w5 w7 : World} {F : Nat → Prop} {p : Nat} {S : St} {mk fi : Nat} {R : Int} {lo : Option Addr} {m : Nat} {D : Nat → ChD} {ao : Option Addr} {na ca : Nat} {bo : Option Addr} {nb cb : Nat} (hd : Dev w5 F p S) (hk : Chs w5 lo m D) (hl : LogAt w5 w.heap.size mk fi R) (hW : writeE ⟨mk, fi, R⟩ (saysN D m) = 0)
    (hx : (∀ i, i < m → 0 ≤ (D i).line ∧ (D i).line ≤ 4096) ∧ Bytes (recsL (saysN D m)) ∧ m ≤ 4096 ∧ (∀ i, i < m → 0 < (D i).bl → ∀ c, (D i).ba = some c → ¬ F c.block) ∧ ∀ k, F k → k < w.heap.size)
    (oa : Own .u8 5 w5.heap.size w7 ao na ca (writeA ⟨mk, fi, R⟩ (saysN D m))) (om : Own .u8 5 w5.heap.size w7 bo nb cb (writeM ⟨mk, fi, R⟩ (saysN D m))) (hb7 : Below w5.heap.size w5 w7) (hfi : fi ≤ 4096) (hb6 : Below w.heap.size w w5) :
    Hid (Com w w7 F p S w.heap.size mk fi R lo m D ao na ca bo cb ∧ nb = 64) ∧ (Calls Try.prog 50 #[.pointer (some ⟨w7.heap.size, 0, none⟩), .int .i64 (fi : Int), .slice ao na ca] (w7.alloc (.cells #[.pointer (some ⟨p, 0, none⟩), .slice none 0 0] 82)) fun e w' => e = .returned (.tuple #[]) ∧ ∃ K' ro' rc' fs', StepsAt w' F K' w7.heap.size p ro' (0 + 3) rc' fs' ([] ++ [.st (fi * 64) (recsL (saysN D m)), .fl (fi * 64) na, .fe]) ∧ Grew (w7.alloc (.cells #[.pointer (some ⟨p, 0, none⟩), .slice none 0 0] 82)) w7.heap.size none w' ro') ∧
    (w7.alloc (.cells #[.pointer (some ⟨p, 0, none⟩), .slice none 0 0] 82)).cell? ⟨w.heap.size, 0, none⟩ = some (.int .i64 (mk : Int)) ∧ (w7.alloc (.cells #[.pointer (some ⟨p, 0, none⟩), .slice none 0 0] 82)).cell? ⟨w.heap.size, 1, none⟩ = some (.int .i64 (fi : Int)) ∧ (w7.alloc (.cells #[.pointer (some ⟨p, 0, none⟩), .slice none 0 0] 82)).cell? ⟨w.heap.size, 2, none⟩ = some (.int .i64 R) := by
  obtain ⟨x1, x2, x3, x4, x5⟩ := hx
  have eA : writeA ⟨mk, fi, R⟩ (saysN D m) = recsL (saysN D m) := by unfold writeA; rw [if_pos hW]
  have eM : writeM ⟨mk, fi, R⟩ (saysN D m) = markL (recsL (saysN D m)) := by unfold writeM; rw [if_pos hW]
  rw [eA] at oa
  rw [eM] at om
  obtain rfl : nb = 64 := by rw [← om.len, markL_length]
  have hs5 := hb6.size
  have hd7 := hd.below hb7
  have hb8 : Below w7.heap.size w7 (w7.alloc (.cells #[.pointer (some ⟨p, 0, none⟩), .slice none 0 0] 82)) := (Below.refl _ _).alloc (Nat.le_refl _) _
  have hl8 := (hl.below hb7).below hb8
  have na' : ∀ c, ao = some c → c.block < w7.heap.size ∧ ¬ F c.block := fun c hc => ⟨(own_at oa hc).2, fun hf => by have := (own_at oa hc).1; have := x5 _ hf; omega⟩
  have nm : ∀ c, bo = some c → c.block < w7.heap.size ∧ ¬ F c.block := fun c hc => ⟨(own_at om hc).2, fun hf => by have := (own_at om hc).1; have := x5 _ hf; omega⟩
  have hs := steps_new hd7
  exact ⟨⟨⟨hd7, hk.below hb7, hl.below hb7, next hb6 hb7, oa.mono (Nat.zero_le _), om.mono (Nat.zero_le _), na', nm, x1, x2, x3, x4⟩, rfl⟩,
    keep_any hs fi hfi ao na ca _ ((oa.below hb8).sl) x2 oa.cap_le.2 (dat_low (W0 := w7) hs (fun _ c hc => na' c hc)) (by omega), hl8.c0, hl8.c1, hl8.c2⟩
theorem commit_second {w w7 w9 : World} {F K : Nat → Prop} {p : Nat} {S : St} {mk fi : Nat} {R : Int} {lo : Option Addr} {m : Nat} {D : Nat → ChD} {ao : Option Addr} {na ca : Nat} {bo : Option Addr} {nb cb n rc : Nat} {ro : Option Addr} {fs : List Value} {xs : List Stp} (hc : Com w w7 F p S w.heap.size mk fi R lo m D ao na ca bo cb ∧ nb = 64)
    (h : StepsAt w9 F K w7.heap.size p ro n rc fs xs) (g : Grew (w7.alloc (.cells #[.pointer (some ⟨p, 0, none⟩), .slice none 0 0] 82)) w7.heap.size none w9 ro) (hmk : mk ≤ 4096) (hn : n ≤ 10 := by omega) :
    Hid ((Com w w7 F p S w.heap.size mk fi R lo m D ao na ca bo cb ∧ nb = 64) ∧ Grew (w7.alloc (.cells #[.pointer (some ⟨p, 0, none⟩), .slice none 0 0] 82)) w7.heap.size none w9 ro) ∧ (Calls Try.prog 50 #[.pointer (some ⟨w7.heap.size, 0, none⟩), .int .i64 (mk : Int), .slice bo nb cb] w9 fun e w' => e = .returned (.tuple #[]) ∧ ∃ K' ro' rc' fs', StepsAt w' F K' w7.heap.size p ro' (n + 3) rc' fs' (xs ++ [.st (mk * 64) (markL (recsL (saysN D m))), .fl (mk * 64) nb, .fe]) ∧ Grew w9 w7.heap.size ro w' ro') ∧
    w9.cell? ⟨w.heap.size, 0, none⟩ = some (.int .i64 (mk : Int)) ∧ w9.cell? ⟨w.heap.size, 1, none⟩ = some (.int .i64 (fi : Int)) ∧ w9.cell? ⟨w.heap.size, 2, none⟩ = some (.int .i64 R) := by
  obtain ⟨c, rfl⟩ := hc
  have hb8 : Below w7.heap.size w7 (w7.alloc (.cells #[.pointer (some ⟨p, 0, none⟩), .slice none 0 0] 82)) := (Below.refl _ _).alloc (Nat.le_refl _) _
  have hb9 : Below w7.heap.size w7 w9 := hb8.trans (g.below (steps_new c.d))
  have hl9 := c.l.below hb9
  exact ⟨⟨⟨c, rfl⟩, g⟩, keep_any h mk hmk bo 64 cb _ ((c.om.below hb9).sl) (markL_bytes _) c.om.cap_le.2 (dat_low (W0 := w7) h (fun _ q hq => c.nm q hq)) (by omega), hl9.c0, hl9.c1, hl9.c2⟩
theorem commit_third {w w7 w9 wA : World} {F K : Nat → Prop} {p : Nat} {S : St} {mk fi : Nat} {R : Int} {lo : Option Addr} {m lc : Nat} {D : Nat → ChD} {ao : Option Addr} {na ca : Nat} {bo : Option Addr} {nb cb n rc : Nat} {ro roA : Option Addr} {fs : List Value} {xs : List Stp} (hc : (Com w w7 F p S w.heap.size mk fi R lo m D ao na ca bo cb ∧ nb = 64) ∧ Grew (w7.alloc (.cells #[.pointer (some ⟨p, 0, none⟩), .slice none 0 0] 82)) w7.heap.size none w9 ro)
    (h : StepsAt wA F K w7.heap.size p roA n rc fs xs) (g : Grew w9 w7.heap.size ro wA roA) (hmk : mk ≤ 4096) (hn : n ≤ 10 := by omega) :
    Hid ((Com w w7 F p S w.heap.size mk fi R lo m D ao na ca bo cb ∧ nb = 64) ∧ Grew (w7.alloc (.cells #[.pointer (some ⟨p, 0, none⟩), .slice none 0 0] 82)) w7.heap.size none wA roA) ∧ (Calls Try.prog 51 #[.pointer (some ⟨w7.heap.size, 0, none⟩), .agg #[.int .i64 (mk : Int), .int .i64 (fi : Int), .int .i64 R], .slice lo m lc] wA fun e w' => e = .returned (.tuple #[]) ∧ ∃ K' ro' rc' fs', StepsAt w' F K' w7.heap.size p ro' (n + 2 * m + 4) rc' fs' (xs ++ finS mk (saysN D m)) ∧ Grew wA w7.heap.size roA w' ro') ∧
    wA.cell? ⟨w.heap.size, 0, none⟩ = some (.int .i64 (mk : Int)) ∧ wA.cell? ⟨w.heap.size, 1, none⟩ = some (.int .i64 (fi : Int)) ∧ wA.cell? ⟨w.heap.size, 2, none⟩ = some (.int .i64 R) := by
  obtain ⟨⟨c, rfl⟩, g0⟩ := hc
  have gA := g0.trans g
  have hb8 : Below w7.heap.size w7 (w7.alloc (.cells #[.pointer (some ⟨p, 0, none⟩), .slice none 0 0] 82)) := (Below.refl _ _).alloc (Nat.le_refl _) _
  have hbA : Below w7.heap.size w7 wA := hb8.trans (gA.below (steps_new c.d))
  have hlA := c.l.below hbA
  exact ⟨⟨⟨c, rfl⟩, gA⟩, finish_any h mk fi R hmk lo m lc D rfl c.k hbA c.mem c.no c.m4 hn, hlA.c0, hlA.c1, hlA.c2⟩
theorem commit_last {w w7 wA wB : World} {F K : Nat → Prop} {p : Nat} {S : St} {mk fi : Nat} {R : Int} {lo : Option Addr} {m : Nat} {D : Nat → ChD} {ao : Option Addr} {na ca : Nat} {bo : Option Addr} {nb cb n rc : Nat} {ro roB : Option Addr} {fs : List Value} (hc : (Com w w7 F p S w.heap.size mk fi R lo m D ao na ca bo cb ∧ nb = 64) ∧ Grew (w7.alloc (.cells #[.pointer (some ⟨p, 0, none⟩), .slice none 0 0] 82)) w7.heap.size none wA ro)
    (h : StepsAt wB F K w7.heap.size p roB n rc fs ((([] ++ [.st (fi * 64) (recsL (saysN D m)), .fl (fi * 64) na, .fe]) ++ [.st (mk * 64) (markL (recsL (saysN D m))), .fl (mk * 64) nb, .fe]) ++ finS mk (saysN D m))) (g : Grew wA w7.heap.size ro wB roB) (hn : n = 0 + 3 + 3 + 2 * m + 4 := by rfl) :
    Hid (Goes F w F wB) ∧ Calls Try.prog 52 #[.pointer (some ⟨w7.heap.size, 0, none⟩)] wB fun e w' => e = .returned (.int .i64 (runE S (comS ⟨mk, fi, R⟩ (saysN D m)))) ∧ ∃ F', Dev w' F' p (runS S (comS ⟨mk, fi, R⟩ (saysN D m))) ∧ Goes F wB F' w' := by
  obtain ⟨⟨c, rfl⟩, g0⟩ := hc
  have gB := g0.trans g
  have hb8 : Below w7.heap.size w7 (w7.alloc (.cells #[.pointer (some ⟨p, 0, none⟩), .slice none 0 0] 82)) := (Below.refl _ _).alloc (Nat.le_refl _) _
  have hbB : Below w7.heap.size w7 wB := hb8.trans (gB.below (steps_new c.d))
  rw [com_eq (R := R) c.oa.len] at h
  have hm := c.m4
  exact ⟨Goes.of_below (next c.b hbB), srun_any h (c.d.below hbB) (by omega)⟩
set_option maxHeartbeats 6400000 in
theorem commit_good {w : World} {F : Nat → Prop} {p : Nat} {S : St} (hd : Dev w F p S) (M F1 R : Int) (lo : Option Addr) (m lc : Nat) (D : Nat → ChD) (hg : (Lg.mk M F1 R).Ok) (h : Chs w lo m D) (hno : ∀ i, i < m → 0 < (D i).bl → ∀ c, (D i).ba = some c → ¬ F c.block) (hB : comB S.n ⟨M, F1, R⟩ (saysN D m) = true) (hW : writeE ⟨M, F1, R⟩ (saysN D m) = 0) (hm : 0 < m) :
    Calls Try.prog 25 #[.pointer (some ⟨p, 0, none⟩), .agg #[.int .i64 M, .int .i64 F1, .int .i64 R], .slice lo m lc] w fun e w' => e = .returned (.int .i64 (runE S (comS ⟨M, F1, R⟩ (saysN D m)))) ∧ ∃ F', Dev w' F' p (runS S (comS ⟨M, F1, R⟩ (saysN D m))) ∧ Goes F w F' w' := by
  have hbA := (Below.refl w.heap.size w).alloc (Nat.le_refl _) (.cells #[.int .i64 M, .int .i64 F1, .int .i64 R] 23)
  have hbD := below_drew hbA
  have hLg := logAt_new w M F1 R
  obtain ⟨c0, c1, c2⟩ := logCells w M F1 R
  have hdD := hd.below hbD
  have hN : Rg (S.n : Int) := by have := hd.ok.n1; unfold Rg; omega
  have cL := lines_any hdD
  have cR := wright_any M F1 R S.n (w.alloc (.cells #[.int .i64 M, .int .i64 F1, .int .i64 R] 23)).drew hg hN
  have hkD := h.below hbD
  have HD := hid hdD
  have HK := hid hkD
  have hb1 : Below w.heap.size w (w.alloc (.cells #[.int .i64 M, .int .i64 F1, .int .i64 R] 23)).drew := hbD
  have h12 : rightG ⟨M, F1, R⟩ S.n = true ∧ rightL S.n (saysN D m) = true := by unfold comB at hB; simpa using hB
  obtain ⟨h1, h2'⟩ := h12
  have h2 : rightB S.n D m = true := by rw [rightB_eq]; exact h2'
  have hm9 := h.fit
  rw [h1] at cR
  have hn1 := hd.ok.n1
  have hG := rightG_iff.1 h1
  have g1 := hG.m0
  have g2 := hG.m1
  have g3 := hG.f0
  have g4 := hG.f1
  have g5 := hG.r0
  simp only at g1 g2 g3 g4 g5
  obtain ⟨w1, w2, w3, w4⟩ := writeE_zero hW
  have hml : (saysN D m).length = m := saysN_length D m
  have hmem : ∀ i, i < m → 0 ≤ (D i).line ∧ (D i).line ≤ 4096 := fun i hi => by have t := rightL_mem w2 (says_mem D hi); exact ⟨t.1, Int.le_of_lt t.2.1⟩
  have hbyt : Bytes (recsL (saysN D m)) := recsL_bytes (fun c hc => by
    obtain ⟨i, hi, rfl⟩ : ∃ i, i < m ∧ (D i).says = c := by
      unfold saysN at hc
      rw [List.mem_map] at hc
      obtain ⟨i, hi, e⟩ := hc
      exact ⟨i, by simpa using hi, e⟩
    exact (h.ok i hi).by_)
  have hm4 : m ≤ 4096 := by have := rightL_len w2; omega
  have flt := hd.bound
  have HX := hid (And.intro hmem (And.intro hbyt (And.intro hm4 (And.intro hno flt))))
  clear hd hkD hdD hbA hB h2' h1 h hG w1 w2 w3 w4 hmem hbyt hno flt hml
  obtain ⟨mk, rfl⟩ : ∃ mk : Nat, M = mk := ⟨M.toNat, by omega⟩
  obtain ⟨fi, rfl⟩ : ∃ fi : Nat, F1 = fi := ⟨F1.toNat, by omega⟩
  have hmk : mk ≤ 4096 := by omega
  have hfi : fi ≤ 4096 := by omega
  have hmi : ¬ ((m : Int) = 0) := by omega
  clear g1 g2 g3 g4 g5
  go_enter Try.func25, Try.ntmps25
  go_upto_region 1 with fail
  refine wp_region_held_drew (S := fun w' => w'.cell? ⟨w.heap.size, 0, none⟩ = some (.int .i64 (mk : Int)) ∧ w'.cell? ⟨w.heap.size, 1, none⟩ = some (.int .i64 (fi : Int)) ∧ w'.cell? ⟨w.heap.size, 2, none⟩ = some (.int .i64 R)) (by kernel_rfl) ⟨c0, c1, c2⟩ (fun hH => ?_)
  refine wpAnyH_take (i := 0) (v := ?_) (List.getElem?_toArray.trans rfl) (by kernel_rfl) (by kernel_rfl) (by kernel_rfl) (fun _ _ _ h => h) (Or.inl ⟨by rfl, ?_⟩) (by assumption) ?_
  rotate_left
  · (intro w hSw; obtain ⟨h1, h2, h3⟩ := hSw; go_simp; try (with_reducible rfl))
  simp only [Act.put, List.setIfInBounds_toArray, List.set_cons_zero, List.set_cons_succ]
  refine wpAnyH_take (i := 1) (v := ?_) (List.getElem?_toArray.trans rfl) (by kernel_rfl) (by kernel_rfl) (by kernel_rfl) (fun _ _ _ h => h) (Or.inl ⟨by rfl, ?_⟩) (by assumption) ?_
  rotate_left
  · (intro w hSw; obtain ⟨h1, h2, h3⟩ := hSw; go_simp; try (with_reducible rfl))
  simp only [Act.put, List.setIfInBounds_toArray, List.set_cons_zero, List.set_cons_succ]
  refine wpAnyH_ready (rs := [2]) (by kernel_rfl) (by simp) ?_
  refine AllReadyH.cons (List.getElem?_toArray.trans rfl) (fun K3 hK3 => ?_) AllReadyH.nil
  go_simp
  refine (cL).mono ?_
  rintro e w' ⟨rfl, rfl⟩
  dsimp only
  refine hK3.out _ _ ⟨c0, c1, c2⟩ (fun hHeld3 => ?_)
  clear hK3 K3
  refine wpAnyH_ready (rs := [3]) (by kernel_rfl) (by simp) ?_
  refine AllReadyH.cons (List.getElem?_toArray.trans rfl) (fun K3 hK3 => ?_) AllReadyH.nil
  go_simp
  refine (cR).mono ?_
  rintro e w3 ⟨rfl, hb3⟩
  have hL3 := hLg.below (w' := w3) (next (below_drew (Below.refl _ _)) hb3)
  have hb4 := next hb1 hb3
  have cL3 := lines_any (HD.out.below hb3)
  have cK3 := right_any S.n lo m lc D w3 (HK.out.below hb3)
  rw [h2] at cK3
  dsimp only
  refine hK3.out _ _ ⟨hL3.c0, hL3.c1, hL3.c2⟩ (fun hHeld3 => ?_)
  clear hK3 K3
  refine wpAnyH_take (i := 4) (v := ?_) (List.getElem?_toArray.trans rfl) (by kernel_rfl) (by kernel_rfl) (by kernel_rfl) (fun _ _ _ h => h) (Or.inl ⟨by rfl, ?_⟩) (by assumption) ?_
  rotate_left
  · (intro w hSw; obtain ⟨h1, h2, h3⟩ := hSw; go_simp; try (with_reducible rfl))
  simp only [Act.put, List.setIfInBounds_toArray, List.set_cons_zero, List.set_cons_succ]
  refine wpAnyH_take (i := 5) (v := ?_) (List.getElem?_toArray.trans rfl) (by kernel_rfl) (by kernel_rfl) (by kernel_rfl) (fun _ _ _ h => h) (Or.inl ⟨by rfl, ?_⟩) (by assumption) ?_
  rotate_left
  · (intro w hSw; obtain ⟨h1, h2, h3⟩ := hSw; go_simp; try (with_reducible rfl))
  simp only [Act.put, List.setIfInBounds_toArray, List.set_cons_zero, List.set_cons_succ]
  refine wpAnyH_take (i := 6) (v := ?_) (List.getElem?_toArray.trans rfl) (by kernel_rfl) (by kernel_rfl) (by kernel_rfl) (fun _ _ _ h => h) (Or.inl ⟨by rfl, ?_⟩) (by assumption) ?_
  rotate_left
  · (intro w hSw; obtain ⟨h1, h2, h3⟩ := hSw; go_simp; try (with_reducible rfl))
  simp only [Act.put, List.setIfInBounds_toArray, List.set_cons_zero, List.set_cons_succ]
  refine wpAnyH_take (i := 8) (v := ?_) (List.getElem?_toArray.trans rfl) (by kernel_rfl) (by kernel_rfl) (by kernel_rfl) (fun _ _ _ h => h) (Or.inl ⟨by rfl, ?_⟩) (by assumption) ?_
  rotate_left
  · (intro w hSw; obtain ⟨h1, h2, h3⟩ := hSw; go_simp; try (with_reducible rfl))
  simp only [Act.put, List.setIfInBounds_toArray, List.set_cons_zero, List.set_cons_succ]
  refine wpAnyH_ready (rs := [7]) (by kernel_rfl) (by simp) ?_
  refine AllReadyH.cons (List.getElem?_toArray.trans rfl) (fun K3 hK3 => ?_) AllReadyH.nil
  go_simp
  refine (cL3).mono ?_
  rintro e w' ⟨rfl, rfl⟩
  dsimp only
  refine hK3.out _ _ (by assumption) (fun hHeld5 => ?_)
  clear hK3 K3
  refine wpAnyH_ready (rs := [9]) (by kernel_rfl) (by simp) ?_
  refine AllReadyH.cons (List.getElem?_toArray.trans rfl) (fun K3 hK3 => ?_) AllReadyH.nil
  go_simp
  refine (cK3).mono ?_
  rintro e w5 ⟨rfl, hb5⟩
  have hL5 := hL3.below hb5
  have hb6 := next hb4 hb5
  dsimp only
  refine hK3.out _ _ ⟨hL5.c0, hL5.c1, hL5.c2⟩ (fun hHeld6 => ?_)
  clear hK3 K3
  refine wpAnyH_take (i := 10) (v := ?_) (List.getElem?_toArray.trans rfl) (by kernel_rfl) (by kernel_rfl) (by kernel_rfl) (fun _ _ _ h => h) (Or.inl ⟨by rfl, ?_⟩) (by assumption) ?_
  rotate_left
  · (intro w hSw; obtain ⟨h1, h2, h3⟩ := hSw; go_simp; try (with_reducible rfl))
  simp only [Act.put, List.setIfInBounds_toArray, List.set_cons_zero, List.set_cons_succ]
  refine wpAnyH_take (i := 11) (v := ?_) (List.getElem?_toArray.trans rfl) (by kernel_rfl) (by kernel_rfl) (by kernel_rfl) (fun _ _ _ h => h) (Or.inl ⟨by rfl, ?_⟩) (by assumption) ?_
  rotate_left
  · (intro w hSw; obtain ⟨h1, h2, h3⟩ := hSw; go_simp; try (with_reducible rfl))
  simp only [Act.put, List.setIfInBounds_toArray, List.set_cons_zero, List.set_cons_succ]
  refine wpAnyH_done (by kernel_rfl) ?_ _
  have hd5 := HD.out.below (next hb3 hb5)
  have hk5 := HK.out.below (next hb3 hb5)
  obtain ⟨x0, x1, x2⟩ : w5.cell? ⟨w.heap.size, 0, none⟩ = some (.int .i64 (mk : Int)) ∧ w5.cell? ⟨w.heap.size, 1, none⟩ = some (.int .i64 (fi : Int)) ∧ w5.cell? ⟨w.heap.size, 2, none⟩ = some (.int .i64 R) := ⟨hL5.c0, hL5.c1, hL5.c2⟩
  clear hHeld6 hHeld5 hHeld3 hH hL3 hb3 hb4 hb5 cL3 cL cR c0 c1 c2 hb1 hbD HD HK hLg
  have cW := write_any mk fi R lo m lc D w5 hg hk5
  rw [hW] at cW
  have HW := hid hW
  have HD5 := hid hd5
  have HK5 := hid hk5
  have HL5 := hid hL5
  have HB6 := hid hb6
  clear hk5 hd5 hL5 cK3 h2 hg hW hb6 hn1
  go_wp2_with (first
    | (go_at_call 10; with_reducible refine cW.mono ?_; rintro e w7 ⟨ao, na, ca, bo, nb, cb, rfl, oa, om, hne, hb7⟩; obtain ⟨HQ, cK1, z0, z1, z2⟩ := commit_begin HD5.out HK5.out HL5.out HW.out HX.out oa om hb7 hfi HB6.out)
    | (go_at_call 50; with_reducible refine cK1.mono ?_; rintro e w9 ⟨rfl, K9, ro9, rc9, fs9, h9, G9⟩; obtain ⟨HQ9, cK2, z0, z1, z2⟩ := commit_second HQ.out h9 G9 hmk)
    | (go_at_call 50; with_reducible refine cK2.mono ?_; rintro e wA ⟨rfl, KA, roA, rcA, fsA, hA, GA⟩; obtain ⟨HQA, cF, z0, z1, z2⟩ := commit_third HQ9.out hA GA hmk (lc := lc))
    | (go_at_call 51; with_reducible refine cF.mono ?_; rintro e wB ⟨rfl, KB, roB, rcB, fsB, hB, GB⟩; obtain ⟨HGB, cRn⟩ := commit_last HQA.out hB GB)
    | (go_at_call 52; with_reducible refine cRn.mono ?_; rintro e wC ⟨rfl, F', dC, gC⟩))
  go_ret
  exact ⟨rfl, F', dC, HGB.out.trans gC⟩
end Go.Proofs.Ytgiippbjieecmaa
