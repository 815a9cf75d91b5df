/- handle.Text by its contract. -/
import Derived.Test.YtfkiankalddgpaaDoorHandQ
import Derived.Test.YtfkiankalddgpaaDoorRefText
import Derived.Test.YtfkiankalddgpaaDoorItoa
import Derived.Deep.RegionHeld3
namespace Go.Proofs.YtfkiankalddgpaaDoor
set_option maxRecDepth 100000
open Go.RowKit
set_option linter.unusedVariables false
set_option linter.unusedSimpArgs false
set_option maxRecDepth 100000
set_option maxHeartbeats 4000000

theorem cells_kept {w w' : World} {b : Nat} {a c : Value} (hb : Below w.heap.size w w') (h : w.cell? ⟨b, 0, none⟩ = some a ∧ w.cell? ⟨b, 1, none⟩ = some c) : w'.cell? ⟨b, 0, none⟩ = some a ∧ w'.cell? ⟨b, 1, none⟩ = some c := ⟨cell_later hb h.1, cell_later hb h.2⟩
theorem hText_any (I G : Int) (w : World) (T : Tab w) :
    Calls Tryd.prog 17 #[.agg #[.int .i64 I, .int .i64 G]] w fun e w' => e = .returned (.string ⟨(textR I G).toArray⟩) ∧ Below w.heap.size w w' := by
  have hb : Below w.heap.size w (w.alloc (.cells #[.int .i64 I, .int .i64 G] 23)) := (Below.refl _ w).alloc (Nat.le_refl _) _
  by_cases h : RightH I G
  · have hr := hRight_any I G
    rw [rightHB_t h] at hr
    have h' : 0 ≤ I ∧ I < 32 ∧ 0 ≤ G ∧ G ≤ 65535 := h
    have l1 := numL_two (n := I.toNat) (by omega)
    have l2 := numL_five (n := G.toNat) (by omega)
    have n1 := fun w => itoa_any I.toNat w (by omega)
    have n2 := fun w => itoa_any G.toNat w (by omega)
    rw [show ((I.toNat : Nat) : Int) = I by omega] at n1
    rw [show ((G.toNat : Nat) : Int) = G by omega] at n2
    obtain ⟨p, hp⟩ : ∃ p : ByteArray, (⟨(numL I.toNat).toArray⟩ : ByteArray) = p := ⟨_, rfl⟩
    obtain ⟨q, hq⟩ : ∃ q : ByteArray, (⟨(numL G.toNat).toArray⟩ : ByteArray) = q := ⟨_, rfl⟩
    have sp : p.size ≤ 2 := by rw [← hp]; simpa [ByteArray.size] using l1
    have sq : q.size ≤ 5 := by rw [← hq]; simpa [ByteArray.size] using l2
    have e : (⟨(textR I G).toArray⟩ : ByteArray) = p ++ ⟨#[46]⟩ ++ q := numOf (by
      rw [textR_t h, numApp, numApp, ← hp, ← hq]
      simp [textH])
    rw [e]
    rw [hp] at n1
    rw [hq] at n2
    clear e hp hq l1 l2 h
    have cat1 : ∀ w, (Op.stringOp .add p ⟨#[46]⟩).run Tryd.prog w = .ok (.string (p ++ ⟨#[46]⟩)) w := fun w => run_string_add w _ _ (by omega) (by decide)
    have cat2 : ∀ w, (Op.stringOp .add (p ++ ⟨#[46]⟩) q).run Tryd.prog w = .ok (.string (p ++ ⟨#[46]⟩ ++ q)) w := fun w => run_string_add w _ _ (by rw [ByteArray.size_append']; have : (⟨#[46]⟩ : ByteArray).size = 1 := rfl; omega) (by omega)
    go_enter Tryd.func17, Tryd.ntmps17
    go_wp2_with (first | (go_at_call 13; with_reducible refine (hr _).mono ?_; rintro e w1 ⟨rfl, hb1⟩; have c01 := box_cells hb1))
    have T1 : Tab w1 := (T.more _).kept hb1
    have k1 := next hb hb1
    refine wp_region_held_drew (S := fun w' => w'.cell? ⟨w.heap.size, 0, none⟩ = some (.int .i64 I) ∧ w'.cell? ⟨w.heap.size, 1, none⟩ = some (.int .i64 G)) (by kernel_rfl) c01 (fun hH => ?_)
    refine wpAnyH_take (i := 0) (v := ?_) (List.getElem?_toArray.trans rfl) (by kernel_rfl) (by kernel_rfl) (by kernel_rfl) (fun _ _ _ h => h) (Or.inl ⟨by rfl, ?_⟩) (by assumption) ?_
    rotate_left
    · (intro w hSw; obtain ⟨s0, s1⟩ := hSw; go_simp; try (with_reducible rfl))
    simp only [Act.put, List.setIfInBounds_toArray, List.set_cons_zero, List.set_cons_succ]
    refine wpAnyH_take (i := 1) (v := ?_) (List.getElem?_toArray.trans rfl) (by kernel_rfl) (by kernel_rfl) (by kernel_rfl) (fun _ _ _ h => h) (Or.inl ⟨by rfl, ?_⟩) (by assumption) ?_
    rotate_left
    · (intro w hSw; obtain ⟨s0, s1⟩ := hSw; go_simp; try (with_reducible rfl))
    simp only [Act.put, List.setIfInBounds_toArray, List.set_cons_zero, List.set_cons_succ]
    refine wpAnyH_take (i := 4) (v := ?_) (List.getElem?_toArray.trans rfl) (by kernel_rfl) (by kernel_rfl) (by kernel_rfl) (fun _ _ _ h => h) (Or.inl ⟨by rfl, ?_⟩) (by assumption) ?_
    rotate_left
    · (intro w hSw; obtain ⟨s0, s1⟩ := hSw; go_simp; try (with_reducible rfl))
    simp only [Act.put, List.setIfInBounds_toArray, List.set_cons_zero, List.set_cons_succ]
    refine wpAnyH_take (i := 5) (v := ?_) (List.getElem?_toArray.trans rfl) (by kernel_rfl) (by kernel_rfl) (by kernel_rfl) (fun _ _ _ h => h) (Or.inl ⟨by rfl, ?_⟩) (by assumption) ?_
    rotate_left
    · (intro w hSw; obtain ⟨s0, s1⟩ := hSw; go_simp; try (with_reducible rfl))
    simp only [Act.put, List.setIfInBounds_toArray, List.set_cons_zero, List.set_cons_succ]
    refine wpAnyH_ready (rs := [2]) (by kernel_rfl) (by simp) ?_
    refine AllReadyH.cons (List.getElem?_toArray.trans rfl) (fun K3 hK3 => ?_) AllReadyH.nil
    go_simp
    refine (n1 _ T1.drew).mono ?_
    rintro e w2 ⟨rfl, hb2⟩
    dsimp only
    refine hK3.out _ _ (cells_kept hb2 c01) (fun hHeld3 => ?_)
    clear hK3 K3
    refine wpAnyH_take (i := 3) (v := .string (p ++ ⟨#[46]⟩)) (List.getElem?_toArray.trans rfl) (by kernel_rfl) (by kernel_rfl) (by kernel_rfl) (fun _ _ _ h => h) (Or.inl ⟨by rfl, ?_⟩) (by assumption) ?_
    · (intro w hSw; go_simp; try (rw [cat1]); try rfl)
    simp only [Act.put, List.setIfInBounds_toArray, List.set_cons_zero, List.set_cons_succ]
    refine wpAnyH_ready (rs := [6]) (by kernel_rfl) (by simp) ?_
    refine AllReadyH.cons (List.getElem?_toArray.trans rfl) (fun K3 hK3 => ?_) AllReadyH.nil
    go_simp
    refine (n2 _ (T1.drew.kept hb2)).mono ?_
    rintro e w3 ⟨rfl, hb3⟩
    dsimp only
    refine hK3.out _ _ (cells_kept hb3 (cells_kept hb2 c01)) (fun hHeld3 => ?_)
    clear hK3 K3
    refine wpAnyH_take (i := 7) (v := .string (p ++ ⟨#[46]⟩ ++ q)) (List.getElem?_toArray.trans rfl) (by kernel_rfl) (by kernel_rfl) (by kernel_rfl) (fun _ _ _ h => h) (Or.inl ⟨by rfl, ?_⟩) (by assumption) ?_
    · (intro w hSw; go_simp; try (rw [cat2]); try rfl)
    simp only [Act.put, List.setIfInBounds_toArray, List.set_cons_zero, List.set_cons_succ]
    refine wpAnyH_take (i := 8) (v := ?_) (List.getElem?_toArray.trans rfl) (by kernel_rfl) (by kernel_rfl) (by kernel_rfl) (fun _ _ _ h => h) (Or.inl ⟨by rfl, ?_⟩) (by assumption) ?_
    rotate_left
    · (intro w hSw; obtain ⟨s0, s1⟩ := hSw; go_simp; try (with_reducible rfl))
    simp only [Act.put, List.setIfInBounds_toArray, List.set_cons_zero, List.set_cons_succ]
    refine wpAnyH_done (by kernel_rfl) ?_ _
    go_wp2
    go_ret
    exact ⟨rfl, next (next k1.drew hb2) hb3⟩
  · have hr := hRight_any I G
    rw [rightHB_f h] at hr
    rw [textR_f h]
    go_enter Tryd.func17, Tryd.ntmps17
    go_wp2_with (first | (go_at_call 13; with_reducible refine (hr _).mono ?_; rintro e w1 ⟨rfl, hb1⟩))
    go_ret
    exact ⟨rfl, next hb hb1⟩
end Go.Proofs.YtfkiankalddgpaaDoor
