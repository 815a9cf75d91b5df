/- wal's keep by its contract. -/
import Derived.Test.YtgiippbjieecmaaBringP
namespace Go.Proofs.Ytgiippbjieecmaa
set_option maxRecDepth 100000
open Go.RowKit
set_option linter.unusedVariables false

theorem StepsAt.cells {w : World} {F K : Nat → Prop} {s p : Nat} {ro : Option Addr} {n rc : Nat} {fs : List Value} {xs : List Stp} (h : StepsAt w F K s p ro n rc fs xs) : w.cell? ⟨s, 0, none⟩ = some (.pointer (some ⟨p, 0, none⟩)) ∧ w.cell? ⟨s, 1, none⟩ = some (.slice ro n rc) := by
  have := h.obj
  simp [World.cell?, this, stepsObj]
def fnF (p : Nat) : Value := .func (.func 73) #[.pointer (some ⟨p, 0, none⟩)] #[]
theorem fence_end {w w1 : World} {F K : Nat → Prop} {s p : Nat} {ro : Option Addr} {n rc g cap : Nat} {fs : List Value} {xs : List Stp}
    (hC : More w w F K s p ro n rc 1 fs xs #[fnF p]) (hP : Put w w w1 s ro n rc 1 g cap fs #[fnF p]) :
    StepsAt (w1.setCell ⟨s, 1, none⟩ (.slice (some ⟨g, 0, none⟩) (n + 1) cap)) F K s p (some ⟨g, 0, none⟩) (n + 1) cap (fs ++ [fnF p]) (xs ++ [.fe]) ∧ Grew w s ro (w1.setCell ⟨s, 1, none⟩ (.slice (some ⟨g, 0, none⟩) (n + 1) cap)) (some ⟨g, 0, none⟩) :=
  hC.at_.grown (m := 1) (ys := [.fe]) (news := [fnF p]) (below_drew ((Below.refl _ _).alloc (Nat.le_refl _) _)) hP.own hP.grow hP.at_ (K' := K)
    (fun j hj => Or.inl hj) (fun j hj => hj) rfl rfl (by simp [fnF, Value.oneCell'])
    (fun i x v e1 e2 => by
      match i, e1, e2 with
      | 0, e1, e2 =>
        simp only [List.getElem?_cons_zero, Option.some.injEq] at e1 e2
        subst e1 e2
        rfl)
theorem put_cell0 {w w1 : World} {F K : Nat → Prop} {s p : Nat} {ro : Option Addr} {n rc m g cap : Nat} {fs : List Value} {xs : List Stp} {news : Array Value} (h : Put w w w1 s ro n rc m g cap fs news) (C : More w w F K s p ro n rc m fs xs news) : w1.cell? ⟨s, 0, none⟩ = some (.pointer (some ⟨p, 0, none⟩)) := by
  have hb4 : Below w.heap.size w (w.alloc (.cells news 85)).drew := below_drew ((Below.refl _ _).alloc (Nat.le_refl _) _)
  have hl := C.at_.lt
  rw [h.grow.cell_far ⟨s, 0, none⟩ (Nat.lt_of_lt_of_le hl hb4.size) (fun e => by
    cases ro with
    | none => simp [Value.ownBlock] at e
    | some r =>
      simp only [Value.ownBlock, Option.some.injEq] at e
      have := (C.at_.rb rfl).1
      omega)]
  exact (hb4.cell (p := ⟨s, 0, none⟩) hl).trans C.at_.cells.1
theorem cell_off0 {w : World} {s : Nat} {v x : Value} (h : w.cell? ⟨s, 0, none⟩ = some x) : (w.setCell ⟨s, 1, none⟩ v).cell? ⟨s, 0, none⟩ = some x := by
  rw [World.cell?_setCell_other _ _ _ _ (by simp)]
  exact h

set_option maxHeartbeats 3200000 in
theorem keep_any {w : World} {F K : Nat → Prop} {s p : Nat} {ro : Option Addr} {n rc : Nat} {fs : List Value} {xs : List Stp} (h : StepsAt w F K s p ro n rc fs xs) (line : Nat) (hl : line ≤ 4096) (ba : Option Addr) (bl bc : Nat) (ys : List Int)
    (hs : Sl .u8 w ba bl bc ys) (hby : Bytes ys) (hc9 : bc ≤ 9223372036854775807) (hd : Dat w F s ro bl ba) (hn : n ≤ 100000) :
    Calls Try.prog 50 #[.pointer (some ⟨s, 0, none⟩), .int .i64 (line : Int), .slice ba bl bc] w fun e w' => e = .returned (.tuple #[]) ∧ ∃ K' ro' rc' fs', StepsAt w' F K' s p ro' (n + 3) rc' fs' (xs ++ [.st (line * 64) ys, .fl (line * 64) bl, .fe]) ∧ Grew w s ro w' ro' := by
  have cB := bring_any h line hl ba bl bc ys hs hby hc9 hd hn
  have HN : Hid (n ≤ 100000) := hn
  clear h hs hby hc9 hd hn hl
  go_enter Try.func50, Try.ntmps50
  go_wp2_with (go_at_call 72; with_reducible refine cB.mono ?_; rintro e w1 ⟨rfl, K1, ro1, rc1, fs1, h1, hb1⟩)
  have hC : More w1 w1 F K1 s p ro1 (n + 2) rc1 1 fs1 (xs ++ [.st (line * 64) ys, .fl (line * 64) bl]) #[fnF p] := ⟨h1, Below.refl _ _, rfl, by omega, by simp [fnF, Value.oneCell'], by have := HN.out; omega⟩
  have HC := hid hC
  have HB := hid hb1
  obtain ⟨k3, d1⟩ := h1.cells
  have hb4 : ∀ x, Below w1.heap.size w1 (w1.alloc x) := fun x => (Below.refl _ _).alloc (Nat.le_refl _) _
  have k4 : ∀ x, (w1.alloc x).cell? ⟨s, 0, none⟩ = some (.pointer (some ⟨p, 0, none⟩)) := fun x => ((hb4 x).cell (p := ⟨s, 0, none⟩) h1.lt).trans k3
  have d4 : ∀ x, (w1.alloc x).cell? ⟨s, 1, none⟩ = some (.slice ro1 (n + 2) rc1) := fun x => ((hb4 x).cell (p := ⟨s, 1, none⟩) h1.lt).trans d1
  clear h1 hC hb1 hb4 cB
  refine wp_region_held_drew (S := fun w' => w'.cell? ⟨s, 0, none⟩ = some (.pointer (some ⟨p, 0, none⟩))) (by kernel_rfl) k3 (fun hH => ?_)
  refine wpAnyH_take (i := 0) (v := ?_) (List.getElem?_toArray.trans rfl) (by kernel_rfl) (by kernel_rfl) (by kernel_rfl) (fun _ _ _ h => h) (Or.inl ⟨by rfl, ?_⟩) (by assumption) ?_
  rotate_left
  · (intro w hSw; (try dsimp only at hSw); go_simp; try (with_reducible rfl))
  simp only [Act.put, List.setIfInBounds_toArray, List.set_cons_zero, List.set_cons_succ]
  refine wpAnyH_take (i := 1) (v := ?_) (List.getElem?_toArray.trans rfl) (by kernel_rfl) (by kernel_rfl) (by kernel_rfl) (fun _ _ _ h => h) (Or.inl ⟨by rfl, ?_⟩) (by assumption) ?_
  rotate_left
  · (intro w hSw; (try dsimp only at hSw); go_simp; try (with_reducible rfl))
  simp only [Act.put, List.setIfInBounds_toArray, List.set_cons_zero, List.set_cons_succ]
  refine wpAnyH_take (i := 2) (v := ?_) (List.getElem?_toArray.trans rfl) (by kernel_rfl) (by kernel_rfl) (by kernel_rfl) (fun _ _ _ h => h) (Or.inl ⟨by rfl, ?_⟩) (by assumption) ?_
  rotate_left
  · (intro w hSw; (try dsimp only at hSw); go_simp; try (with_reducible rfl))
  simp only [Act.put, List.setIfInBounds_toArray, List.set_cons_zero, List.set_cons_succ]
  refine wpAnyH_take (i := 3) (v := ?_) (List.getElem?_toArray.trans rfl) (by kernel_rfl) (by kernel_rfl) (by kernel_rfl) (fun _ _ _ h => h) (Or.inl ⟨by rfl, ?_⟩) (by assumption) ?_
  rotate_left
  · (intro w hSw; (try dsimp only at hSw); go_simp; try (with_reducible rfl))
  simp only [Act.put, List.setIfInBounds_toArray, List.set_cons_zero, List.set_cons_succ]
  refine wpAnyH_take (i := 5) (v := ?_) (List.getElem?_toArray.trans rfl) (by kernel_rfl) (by kernel_rfl) (by kernel_rfl) (fun _ _ _ h => h) (Or.inl ⟨by rfl, ?_⟩) (by assumption) ?_
  rotate_left
  · (intro w hSw; (try dsimp only at hSw); go_simp; try (with_reducible rfl))
  simp only [Act.put, List.setIfInBounds_toArray, List.set_cons_zero, List.set_cons_succ]
  refine wpAnyH_take (i := 6) (v := ?_) (List.getElem?_toArray.trans rfl) (by kernel_rfl) (by kernel_rfl) (by kernel_rfl) (fun _ _ _ h => h) (Or.inl ⟨by rfl, ?_⟩) (by assumption) ?_
  rotate_left
  · (intro w hSw; (try dsimp only at hSw); go_simp; try (with_reducible rfl))
  simp only [Act.put, List.setIfInBounds_toArray, List.set_cons_zero, List.set_cons_succ]
  refine wpAnyH_take (i := 7) (v := ?_) (List.getElem?_toArray.trans rfl) (by kernel_rfl) (by kernel_rfl) (by kernel_rfl) (fun _ _ _ h => h) (Or.inl ⟨by rfl, ?_⟩) (by assumption) ?_
  rotate_left
  · (intro w hSw; (try dsimp only at hSw); go_simp; try (with_reducible rfl))
  simp only [Act.put, List.setIfInBounds_toArray, List.set_cons_zero, List.set_cons_succ]
  refine wpAnyH_take (i := 8) (v := ?_) (List.getElem?_toArray.trans rfl) (by kernel_rfl) (by kernel_rfl) (by kernel_rfl) (fun _ _ _ h => h) (Or.inl ⟨by rfl, ?_⟩) (by assumption) ?_
  rotate_left
  · (intro w hSw; (try dsimp only at hSw); go_simp; try (with_reducible rfl))
  simp only [Act.put, List.setIfInBounds_toArray, List.set_cons_zero, List.set_cons_succ]
  refine wpAnyH_take (i := 9) (v := ?_) (List.getElem?_toArray.trans rfl) (by kernel_rfl) (by kernel_rfl) (by kernel_rfl) (fun _ _ _ h => h) (Or.inl ⟨by rfl, ?_⟩) (by assumption) ?_
  rotate_left
  · (intro w hSw; (try dsimp only at hSw); go_simp; try (with_reducible rfl))
  simp only [Act.put, List.setIfInBounds_toArray, List.set_cons_zero, List.set_cons_succ]
  refine wpAnyH_ready (rs := [4, 10]) (by kernel_rfl) (by simp) ?_
  refine AllReadyH.cons (List.getElem?_toArray.trans rfl) (fun K1 hK1 => ?_) (AllReadyH.cons (List.getElem?_toArray.trans rfl) (fun K1 hK1 => ?_) AllReadyH.nil)
  · go_simp
    refine hK1.out _ _ (by assumption) (fun hHeld => ?_)
    clear hK1 K1
    refine wpAnyH_ready (rs := [10]) (by kernel_rfl) (by simp) ?_
    refine AllReadyH.cons (List.getElem?_toArray.trans rfl) (fun K2 hK2 => ?_) AllReadyH.nil
    go_simp
    refine hK2.out _ _ (k4 _) (fun hHeld2 => ?_)
    clear hK2 K2
    refine wpAnyH_ready (rs := [11]) (by kernel_rfl) (by simp) ?_
    refine AllReadyH.cons (List.getElem?_toArray.trans rfl) (fun K3 hK3 => ?_) AllReadyH.nil
    refine step_more (by rfl) (.tmp 14) (.tmp 20) (by rfl) HC (by rfl) (by rfl) ?_
    intro g cap w2 HP f5 d5
    have k5 := put_cell0 HP.out HC.out
    refine hK3.out _ _ k5 (fun hHeld3 => ?_)
    clear hK3 K3
    simp only [Act.put, List.setIfInBounds_toArray, List.set_cons_zero, List.set_cons_succ]
    refine wpAnyH_take (i := 12) (v := ?_) (List.getElem?_toArray.trans rfl) (by kernel_rfl) (by kernel_rfl) (by kernel_rfl) (fun _ _ _ h => h) (Or.inl ⟨by rfl, ?_⟩) (by assumption) ?_
    rotate_left
    · (intro w hSw; (try dsimp only at hSw); go_simp; try (with_reducible rfl))
    simp only [Act.put, List.setIfInBounds_toArray, List.set_cons_zero, List.set_cons_succ]
    refine wpAnyH_take (i := 13) (v := ?_) (List.getElem?_toArray.trans rfl) (by kernel_rfl) (by kernel_rfl) (by kernel_rfl) (fun _ _ _ h => h) (Or.inl ⟨by rfl, ?_⟩) (by assumption) ?_
    rotate_left
    · (intro w hSw; (try dsimp only at hSw); go_simp; try (with_reducible rfl))
    simp only [Act.put, List.setIfInBounds_toArray, List.set_cons_zero, List.set_cons_succ]
    refine wpAnyH_ready (rs := [14]) (by kernel_rfl) (by simp) ?_
    refine AllReadyH.cons (List.getElem?_toArray.trans rfl) (fun K4 hK4 => ?_) AllReadyH.nil
    go_simp
    refine hK4.out _ _ (cell_off0 k5) (fun hHeld4 => ?_)
    clear hK4 K4
    refine wpAnyH_done (by kernel_rfl) ?_ _
    go_end0
    obtain ⟨q1, q2⟩ := fence_end HC.out HP.out
    exact ⟨rfl, K1, _, _, _, (by rw [List.append_assoc] at q1; exact q1), HB.out.trans q2⟩
  · go_simp
    refine hK1.out _ _ (k4 _) (fun hHeld => ?_)
    clear hK1 K1
    refine wpAnyH_ready (rs := [4]) (by kernel_rfl) (by simp) ?_
    refine AllReadyH.cons (List.getElem?_toArray.trans rfl) (fun K2 hK2 => ?_) AllReadyH.nil
    go_simp
    refine hK2.out _ _ (by assumption) (fun hHeld2 => ?_)
    clear hK2 K2
    refine wpAnyH_ready (rs := [11]) (by kernel_rfl) (by simp) ?_
    refine AllReadyH.cons (List.getElem?_toArray.trans rfl) (fun K3 hK3 => ?_) AllReadyH.nil
    refine step_more (by rfl) (.tmp 14) (.tmp 20) (by rfl) HC (by rfl) (by rfl) ?_
    intro g cap w2 HP f5 d5
    have k5 := put_cell0 HP.out HC.out
    refine hK3.out _ _ k5 (fun hHeld3 => ?_)
    clear hK3 K3
    simp only [Act.put, List.setIfInBounds_toArray, List.set_cons_zero, List.set_cons_succ]
    refine wpAnyH_take (i := 12) (v := ?_) (List.getElem?_toArray.trans rfl) (by kernel_rfl) (by kernel_rfl) (by kernel_rfl) (fun _ _ _ h => h) (Or.inl ⟨by rfl, ?_⟩) (by assumption) ?_
    rotate_left
    · (intro w hSw; (try dsimp only at hSw); go_simp; try (with_reducible rfl))
    simp only [Act.put, List.setIfInBounds_toArray, List.set_cons_zero, List.set_cons_succ]
    refine wpAnyH_take (i := 13) (v := ?_) (List.getElem?_toArray.trans rfl) (by kernel_rfl) (by kernel_rfl) (by kernel_rfl) (fun _ _ _ h => h) (Or.inl ⟨by rfl, ?_⟩) (by assumption) ?_
    rotate_left
    · (intro w hSw; (try dsimp only at hSw); go_simp; try (with_reducible rfl))
    simp only [Act.put, List.setIfInBounds_toArray, List.set_cons_zero, List.set_cons_succ]
    refine wpAnyH_ready (rs := [14]) (by kernel_rfl) (by simp) ?_
    refine AllReadyH.cons (List.getElem?_toArray.trans rfl) (fun K4 hK4 => ?_) AllReadyH.nil
    go_simp
    refine hK4.out _ _ (cell_off0 k5) (fun hHeld4 => ?_)
    clear hK4 K4
    refine wpAnyH_done (by kernel_rfl) ?_ _
    go_end0
    obtain ⟨q1, q2⟩ := fence_end HC.out HP.out
    exact ⟨rfl, K1, _, _, _, (by rw [List.append_assoc] at q1; exact q1), HB.out.trans q2⟩
end Go.Proofs.Ytgiippbjieecmaa
