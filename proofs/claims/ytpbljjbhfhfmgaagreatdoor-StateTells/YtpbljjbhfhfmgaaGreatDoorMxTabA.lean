/- TabA: these texts, one behind another. -/
import Derived.Test.YtpbljjbhfhfmgaaGreatDoorMxSlotR
import Derived.Test.YtpbljjbhfhfmgaaGreatDoorMxLent
import Derived.WalkKit
/- table.sized, holds, may, open, New and Right by their contracts. -/
namespace Go.Proofs.YtpbljjbhfhfmgaaGreatDoor
set_option maxRecDepth 100000
open Go.RowKit
set_option linter.unusedVariables false
set_option linter.unusedSimpArgs false

/-- A slot by value. -/
def Slt.v (s : Slt) : Value := .agg #[.int .i64 s.gen, .bool s.live, .bool s.two, .int .i64 s.pos, .int .i64 s.len]
/-- A slot in a block of its own. -/
def Slt.obj (s : Slt) : Obj := .cells #[.int .i64 s.gen, .bool s.live, .bool s.two, .int .i64 s.pos, .int .i64 s.len] 55
theorem sized_any (n : Int) (w : World) :
    Calls Tryz.prog 73 #[.int .i64 n] w fun e w' => e = .returned (.bool (sizB n)) ∧ w = w' := by
  go_enter Tryz.func73, Tryz.ntmps73
  go_wp2
  all_goals (go_ret; refine ⟨ret_bool ?_, rfl⟩)
  all_goals (rw [Bool.eq_iff_iff, sizB_iff]; simp [SizT]; omega)
theorem may_any (s : Slt) (w : World) :
    Calls Tryz.prog 74 #[.agg #[.int .i64 s.gen, .bool s.live, .bool s.two, .int .i64 s.pos, .int .i64 s.len]] w fun e w' => e = .returned (.bool (mayB s)) ∧ Below w.heap.size w w' := by
  obtain ⟨g, l, t, p, n⟩ := s
  cases l <;> cases t
  all_goals
    go_enter Tryz.func74, Tryz.ntmps74
    go_wp2
    all_goals (go_ret; refine ⟨ret_bool ?_, (Below.refl _ w).alloc (Nat.le_refl _) _⟩)
    all_goals (rw [Bool.eq_iff_iff]; simp only [mayB, MayS, decide_eq_true_eq, beq_iff_eq, Bool.false_eq_true, false_iff, true_and, false_and, or_false, false_or, and_false, Bool.true_eq_false]; try omega)
theorem made_slots (n : Nat) : (madeCells #[Value.int .i64 0, .bool false, .bool false, .int .i64 0, .int .i64 0] (n * 5)).toList = cellsT (List.replicate n Slt.z) := by
  apply List.ext_getElem?
  intro i
  by_cases hi : i < n * 5
  · have g2 := cellsT_get (List.replicate n Slt.z) (i := i / 5) (j := i % 5) (by simp; omega) (Nat.mod_lt _ (by omega))
    rw [show i / 5 * 5 + i % 5 = i by omega] at g2
    rw [g2]
    have e : sg (List.replicate n Slt.z) (i / 5) = Slt.z := by simp [sg, List.getD, show i / 5 < n by omega]
    rw [e]
    have hsz : (madeCells #[Value.int .i64 0, .bool false, .bool false, .int .i64 0, .int .i64 0] (n * 5)).size = n * 5 := by simp [madeCells]
    rcases (show i % 5 = 0 ∨ i % 5 = 1 ∨ i % 5 = 2 ∨ i % 5 = 3 ∨ i % 5 = 4 by omega) with e1 | e1 | e1 | e1 | e1 <;>
      simp [madeCells, hi, e1, Slt.cells, Slt.z]
  · rw [List.getElem?_eq_none (by simp [madeCells]; omega), List.getElem?_eq_none (by rw [cellsT_length]; simp; omega)]
theorem rgs_z : RgS Slt.z := ⟨by unfold Rg; decide, by unfold Rg; decide, by unfold Rg; decide⟩
theorem new_any (n : Int) (w : World) :
    Calls Tryz.prog 61 #[.int .i64 n] w fun e w' => ∃ ao m c, e = .returned (.tuple #[.slice ao m c, .int .i64 (nwE n)]) ∧ OwT w.heap.size w' ao m c (nwL n) ∧ Below w.heap.size w w' := by
  obtain ⟨i0, hi, hz0, hz1, hz2⟩ := info_parts Tryz.info55
  by_cases h : SizT n
  · obtain ⟨h1, h2, h3⟩ := h
    obtain ⟨m, rfl⟩ := Int.eq_ofNat_of_zero_le (show 0 ≤ n by omega)
    have hs := sizB_t (n := (m : Int)) ⟨h1, h2, h3⟩
    obtain ⟨e1, e2⟩ := nw_t (n := (m : Int)) ⟨h1, h2, h3⟩
    rw [e1, e2, Int.toNat_natCast]
    clear e1 e2
    go_enter Tryz.func61, Tryz.ntmps61
    go_wp2_with (first
      | (go_at_call 73; with_reducible refine (sized_any _ _).mono ?_; rintro e w' ⟨rfl, rfl⟩; rw [hs])
      | (at_make; refine wpList_make_full _ rfl _ _ 24 rfl w.heap.size 55 i0 (.agg #[.int .i64 0, .bool false, .bool false, .int .i64 0, .int .i64 0]) 5 Tryz.underlying24 hi hz0 hz1 .i64 .i64 _ _ m rfl rfl rfl rfl ?b2 ?b3 ?b4 ?_))
    case b2 => rw [hz2]; omega
    case b3 => unfold maxLen; omega
    case b4 => exact Nat.le_refl _
    intro w1 hown hgrow
    have hown' : OwT w.heap.size w1 (some ⟨w.heap.size, 0, none⟩) m m (List.replicate m Slt.z) := ⟨by simp, by rw [← made_slots]; exact hown, fun s hs => by rw [List.eq_of_mem_replicate hs]; exact rgs_z⟩
    have hbel : Below w.heap.size w w1 := (Below.refl _ _).grown hgrow (Nat.le_refl _) (by intro k hk; cases hk)
    clear hown hgrow
    go_wp2
    go_ret2
    exact ⟨_, _, _, rfl, hown', hbel⟩
  · have hs := sizB_f h
    obtain ⟨e1, e2⟩ := nw_f h
    rw [e1, e2]
    clear h
    go_enter Tryz.func61, Tryz.ntmps61
    go_wp2_with (first
      | (go_at_call 73; with_reducible refine (sized_any _ _).mono ?_; rintro e w' ⟨rfl, rfl⟩; rw [hs]))
    go_ret2
    exact ⟨none, 0, 0, rfl, owT_nil _ _, Below.refl _ _⟩
set_option maxRecDepth 100000 in
theorem right_tb (ao : Option Addr) (n cap : Nat) (l : List Slt) (w : World) (h : Tb w ao n cap l) (hn : n ≤ 9223372036854775807) :
    Calls Tryz.prog 45 #[.slice ao n cap] w fun e w' => e = .returned (.bool (rightB l)) ∧ Below w.heap.size w w' := by
  have hl := h.len
  by_cases hs : SizT (n : Int)
  · have hsb := sizB_t hs
    go_enter Tryz.func45, Tryz.ntmps45
    go_wp2_with (go_at_call 73; with_reducible refine (sized_any _ _).mono ?_; rintro e w' ⟨rfl, rfl⟩; rw [hsb])
    go_loopw [11] (fun t wr => ∃ k : Nat, k ≤ n ∧ t = .int .i64 k ∧ Hid (∀ i, i < k → MayS (sg l i)) ∧ Below w.heap.size w wr) (fun t _ => n - (intOf t).toNat)
    case atStart => exact ⟨0, Nat.zero_le _, rfl, hid (fun i hi => by omega), Below.refl _ _⟩
    case round =>
      obtain ⟨k, hk, rfl, HK, hb⟩ := hrel
      by_cases hlt : k < n
      · obtain ⟨b, off, rfl, _, _⟩ := h.here (by omega)
        obtain ⟨c0, c1, c2, c3, c4⟩ := h.at hb hlt
        have hki : (k : Int) < (n : Int) := by omega
        have HT : Hid (MayS (sg l k) → ∀ i, i < k + 1 → MayS (sg l i)) := fun hm i hi => by
          by_cases e : i = k
          · rw [e]; exact hm
          · exact HK.out i (by omega)
        have HF : Hid (¬ MayS (sg l k) → false = rightB l) := fun hm => (rightB_f (fun hr => hm (hr.may (by omega)))).symm
        have hbA : Below w.heap.size w (wr.alloc (sg l k).obj) := hb.alloc hb.size _
        have cM := may_any (sg l k)
        generalize sg l k = s at *
        obtain ⟨g, lv, tw, p, ln⟩ := s
        simp only at c0 c1 c2 c3 c4 cM
        clear HK h hsb hs
        by_cases hm : MayS ⟨g, lv, tw, p, ln⟩
        · rw [mayB_t hm] at cM
          go_wp2_with (go_at_call 74; with_reducible refine (cM _).mono ?_; rintro e w3 ⟨rfl, hb3⟩)
          go_roundw
          case rel => exact ⟨k + 1, by omega, by go_num, hid (HT.out hm), next hbA hb3⟩
          case measure => simp [intOf]; omega
        · rw [mayB_f hm] at cM
          go_wp2_with (go_at_call 74; with_reducible refine (cM _).mono ?_; rintro e w3 ⟨rfl, hb3⟩)
          go_ret
          exact ⟨ret_bool (HF.out hm), next hbA hb3⟩
      · obtain rfl : k = n := by omega
        have HR : Hid (rightB l = true) := hid (rightB_t ⟨by rw [hl]; exact hs, may_all HK.out hl.symm⟩)
        go_wp2
        go_ret
        exact ⟨ret_bool HR.out.symm, hb⟩
  · have hsb := sizB_f hs
    have hr : rightB l = false := rightB_f (fun hr => hs (by have := hr.1; rwa [hl] at this))
    rw [hr]
    go_enter Tryz.func45, Tryz.ntmps45
    go_wp2_with (go_at_call 73; with_reducible refine (sized_any _ _).mono ?_; rintro e w' ⟨rfl, rfl⟩; rw [hsb])
    go_ret
    exact ⟨rfl, Below.refl _ _⟩
end Go.Proofs.YtpbljjbhfhfmgaaGreatDoor
