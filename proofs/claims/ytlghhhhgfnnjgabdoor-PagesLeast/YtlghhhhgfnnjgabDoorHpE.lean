/- pages' kinds and Kinds by their contracts. -/
import Derived.Test.YtlghhhhgfnnjgabDoorHpD
import Derived.Test.YtlghhhhgfnnjgabDoorPagN
import Derived.Laws.CopyOwn
namespace Go.Proofs.YtlghhhhgfnnjgabDoor
set_option maxRecDepth 100000
open Go.RowKit
set_option linter.unusedVariables false
set_option linter.unusedSimpArgs false
set_option maxRecDepth 100000

/-- Kinds told one by one. -/
def ksL (s : HpS) (N k : Nat) : List Int := (List.range N).map (fun i => if i < k then s.kd i else 0)
theorem ksL_zero (s : HpS) (N : Nat) : ksL s N 0 = List.replicate N 0 := by
  apply List.ext_getElem?
  intro i
  by_cases h : i < N <;> simp [ksL, h]
theorem ksL_set (s : HpS) (N k : Nat) : (ksL s N k).set k (s.kd k) = ksL s N (k + 1) := by
  unfold ksL
  rw [map_range_set]
  refine map_range_eq fun i hi => ?_
  by_cases e : i = k
  · rw [if_pos e, if_pos (by omega), e]
  · rw [if_neg e]
    by_cases c : i < k
    · rw [if_pos c, if_pos (by omega)]
    · rw [if_neg c, if_neg (by omega)]
theorem ksL_all {N : Nat} {l : List Spn} {s : HpS} (h : HpI N l s) : ksL s N N = kzN N l := by
  unfold ksL kzN
  rw [Int.toNat_natCast]
  exact map_range_eq fun i hi => by rw [if_pos hi, h.kd i hi]
set_option maxHeartbeats 1000000 in
theorem kinds_hp (b N : Nat) (s : HpS) (w : World) (h : Hpb w b N s) (hN : N ≤ 64) :
    Calls Tryd.prog 10 #[.pointer (some ⟨b, 0, none⟩)] w fun e w' => ∃ bo m c, e = .returned (.slice bo m c) ∧ Own .i64 3 w.heap.size w' bo m c (ksL s N N) ∧ Below w.heap.size w w' := by
  obtain ⟨i0, hi, hz0, hz1, hz2⟩ := info_parts Tryd.info3
  have c9 := h.count
  have hlt := h.lt
  have HH := hid h
  clear h
  go_enter Tryd.func10, Tryd.ntmps10
  go_wp2_with (at_make; refine wpList_make_full _ rfl _ _ 22 rfl w.heap.size 3 i0 (.int .i64 0) 1 Tryd.underlying22 hi hz0 hz1 .i64 .i64 _ _ N rfl rfl ?b0 ?b1 ?b2 ?b3 ?b4 ?_)
  case b0 => rfl
  case b1 => rfl
  case b2 => rw [hz2]; omega
  case b3 => unfold maxLen; omega
  case b4 => exact Nat.le_refl _
  intro w1 hown hgrow
  have hbel : Below w.heap.size w w1 := (Below.refl _ _).grown hgrow (Nat.le_refl _) (by intro k hk; cases hk)
  have HO1 : Hid (Own .i64 3 w.heap.size w1 (some ⟨w.heap.size, 0, none⟩) N N (ksL s N 0)) := hid ⟨by simp [ksL], by
    rw [ksL_zero]
    have hm : (madeCells #[Value.int .i64 0] N).toList = (List.replicate N (0 : Int)).map (Value.int .i64) := by rw [toList_madeCells_one]; simp
    rw [← hm]
    exact hown⟩
  clear hown hgrow hi hz0 hz1 hz2 c9
  go_wp2
  go_loopw [12] (fun s12 wr => ∃ k : Nat, k ≤ N ∧ s12 = .int .i64 k ∧ Hid (Own .i64 3 w.heap.size wr (some ⟨w.heap.size, 0, none⟩) N N (ksL s N k)) ∧ Below w.heap.size w wr) (fun s12 _ => N - (intOf s12).toNat)
  case atStart => exact ⟨0, Nat.zero_le _, rfl, HO1, hbel⟩
  case round =>
    clear HO1 hbel
    obtain ⟨k, hk, rfl, HO, hb⟩ := hrel
    by_cases hltk : k < N
    · have hki : (k : Int) < (N : Int) := by omega
      have hk64 : (k : Int) < 64 := by omega
      have hk64' : k < 64 := by omega
      have hne : b ≠ w.heap.size := by omega
      obtain ⟨y, hy⟩ : ∃ y, (ksL s N k).getD k 0 = y := ⟨_, rfl⟩
      have c0 := HO.out.at k hltk hy
      have f0 := HO.out.row.frozenAt k
      have c1 := (HH.out.kept hb).kind hltk hN
      have HO2 : Hid (Own .i64 3 w.heap.size (wr.setCell ⟨w.heap.size, k, none⟩ (.int .i64 (s.kd k))) (some ⟨w.heap.size, 0, none⟩) N N (ksL s N (k + 1))) := hid (by rw [← ksL_set]; exact HO.out.set k (s.kd k))
      clear HO HH hy
      generalize s.kd k = v at *
      go_wp2
      go_roundw
      case rel => exact ⟨k + 1, by omega, by go_num, HO2, hb.setCell (Nat.le_refl _) _⟩
      case measure => simp [intOf]; omega
    · obtain rfl : N = k := by omega
      go_wp2
      go_ret
      exact ⟨_, _, _, rfl, HO.out, hb⟩
/-- A heap that is laid, or none. -/
def LaidH (P : Int) (l : List Spn) (M : Nat) (s : HpS) (b : Bool) : Prop := M ≤ 64 ∧ ((RightO P l ∧ b = true ∧ (M : Int) = P ∧ HpI M l s) ∨ (¬ RightO P l ∧ b = false ∧ M = 0))
theorem lay_ps (P : Int) (ao : Option Addr) (n cap : Nat) (l : List Spn) (w : World) (T : Cws w) (h : Ps w ao n cap l) (hn : n ≤ 8796093022208) :
    Calls Tryd.prog 9 #[.int .i64 P, .slice ao n cap] w fun e w' => ∃ (M : Nat) (s : HpS) (b : Bool), e = .returned (.tuple #[.agg (hpC M s), .bool b]) ∧ LaidH P l M s b ∧ Below w.heap.size w w' := by
  by_cases hP : 0 ≤ P ∧ P ≤ 64
  · obtain ⟨N, rfl⟩ := Int.eq_ofNat_of_zero_le hP.1
    refine (lay_in N (by omega) ao n cap l w T h hn).mono ?_
    rintro e w' ⟨⟨hr, s, rfl, hi⟩ | ⟨hr, rfl⟩, hb⟩
    · exact ⟨N, s, true, rfl, ⟨by omega, .inl ⟨hr, rfl, rfl, hi⟩⟩, hb⟩
    · exact ⟨0, hp0, false, rfl, ⟨by omega, .inr ⟨hr, rfl, rfl⟩⟩, hb⟩
  · refine (lay_out P ao n cap w hP).mono ?_
    rintro e w' ⟨rfl, hb⟩
    exact ⟨0, hp0, false, rfl, ⟨by omega, .inr ⟨fun c => hP c.rng, rfl, rfl⟩⟩, hb⟩
theorem hp_laid (w : World) (M : Nat) (s : HpS) : (storeCells ⟨w.heap.size, 0, none⟩ (hpC M s).toList 0).run Tryd.prog (w.alloc (.cells (hpC 0 hp0) 42)) = .ok () (w.alloc (.cells (hpC M s) 42)) :=
  run_storeCells_new (P := Tryd.prog) w 42 _ _ (by rw [hpC_size]; exact hp_size) (by rw [hpC_size, hpC_size]) (hpC_one _ _)
theorem hpC_some (M : Nat) (s : HpS) : ¬ hpC M s = #[] := fun e => by have := hpC_size M s; rw [e] at this; cases this
theorem hpb_new (w : World) (M : Nat) (s : HpS) : Hpb (w.alloc (.cells (hpC M s) 42)) w.heap.size M s := heap_alloc_new w _
theorem LaidH.le {P : Int} {l : List Spn} {M : Nat} {s : HpS} {b : Bool} (h : LaidH P l M s b) : M ≤ 64 := h.1
theorem LaidH.kinds {P : Int} {l : List Spn} {M : Nat} {s : HpS} {b : Bool} (h : LaidH P l M s b) : ksL s M M = kzL P l ∧ b = rtO P l := by
  obtain ⟨_, ⟨hr, rfl, rfl, hi⟩ | ⟨hr, rfl, rfl⟩⟩ := h
  · rw [(kz_t hr).1, (kz_t hr).2]
    exact ⟨ksL_all hi, rfl⟩
  · rw [(kz_f hr).1, (kz_f hr).2]
    exact ⟨rfl, rfl⟩
set_option maxHeartbeats 1000000 in
theorem kinds_ps (P : Int) (ao : Option Addr) (n cap : Nat) (l : List Spn) (w : World) (T : Cws w) (h : Ps w ao n cap l) (hn : n ≤ 8796093022208) :
    Calls Tryd.prog 7 #[.int .i64 P, .slice ao n cap] w fun e w' => ∃ bo m c, e = .returned (.tuple #[.slice bo m c, .bool (rtO P l)]) ∧ Own .i64 3 w.heap.size w' bo m c (kzL P l) ∧ Below w.heap.size w w' := by
  have cL := lay_ps P ao n cap l w T h hn
  have hz := hp_zero
  have hz1 := hpC_size 0 hp0
  have hz2 := hpC_some 0 hp0
  clear h T
  go_enter Tryd.func7, Tryd.ntmps7
  go_wp2_with (first
    | (go_at_call 9; with_reducible refine cL.mono ?_; rintro e w1 ⟨M, s, b, rfl, hL, hb1⟩; have HL := hid hL; have hM := hL.le; have hst := hp_laid w1 M s; have hsz := hpC_size M s; have hbA := hb1.alloc hb1.size (.cells (hpC M s) 42); have cK := kinds_hp w1.heap.size M s _ (hpb_new w1 M s) hM; clear hL)
    | (go_at_call 10; with_reducible refine cK.mono ?_; rintro e w2 ⟨bo, m, c, rfl, ho, hb2⟩; have HO := hid ho; have HB := hid (next hbA hb2); clear ho hb2))
  go_ret2
  have hw := hb1.size
  obtain ⟨e1, e2⟩ := HL.out.kinds
  exact ⟨bo, m, c, by rw [← e2]; rfl, by rw [← e1]; exact HO.out.mono (by simp; omega), HB.out⟩
end Go.Proofs.YtlghhhhgfnnjgabDoor
