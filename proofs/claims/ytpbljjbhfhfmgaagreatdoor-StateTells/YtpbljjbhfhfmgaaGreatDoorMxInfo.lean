/- Info · Cmp · Clone · RefBytes · HpR: these texts, one behind another. -/
import Derived.Test.YtpbljjbhfhfmgaaGreatDoorMxHandM
import Derived.Test.YtpbljjbhfhfmgaaGreatDoorProg
import Derived.WalkSpells
import Derived.WalkKit
import Derived.LoopTactic
import Derived.Test.YtpbljjbhfhfmgaaGreatDoorMxOff
import Derived.Laws.Tables
import Derived.Laws.Rows
/- What is known of the types of bytes and numbers. -/
namespace Go.Proofs.YtpbljjbhfhfmgaaGreatDoor
set_option maxRecDepth 100000
open Go.RowKit

theorem Tryz.info5 : (Tryz.prog.info? 5).map (fun i => (i.zero, i.size, i.bytes)) = some (some (.int .u8 0), 1, 1) := by kernel_rfl
theorem Tryz.info3 : (Tryz.prog.info? 3).map (fun i => (i.zero, i.size, i.bytes)) = some (some (.int .i64 0), 1, 8) := by kernel_rfl
end Go.Proofs.YtpbljjbhfhfmgaaGreatDoor
/- cmp.Compare of numbers by its contract. -/
namespace Go.Proofs.YtpbljjbhfhfmgaaGreatDoor
set_option maxRecDepth 100000
open Go.RowKit
set_option linter.unusedVariables false
set_option linter.unusedSimpArgs false
set_option maxRecDepth 100000

theorem isNaN_int (a : Int) (w : World) :
    Calls Tryz.prog 70 #[.int .i64 a] w fun e w' => e = .returned (.bool false) ∧ w = w' := by
  go_enter Tryz.func70, Tryz.ntmps70
  go_wp2
  go_ret
  exact ⟨rfl, rfl⟩
/-- 'cmp.Compare(a, b)'. -/
def cmpI (a b : Int) : Int := if a < b then -1 else if a = b then 0 else 1
theorem cmpI_less {a b : Int} (h : a < b) : cmpI a b = -1 := if_pos h
theorem cmpI_same {a b : Int} (h : a = b) : cmpI a b = 0 := by unfold cmpI; rw [if_neg (by omega), if_pos h]
theorem cmpI_more {a b : Int} (h : ¬ a < b) (k : ¬ a = b) : cmpI a b = 1 := by unfold cmpI; rw [if_neg h, if_neg k]
theorem compare_int (a b : Int) (w : World) :
    Calls Tryz.prog 42 #[.int .i64 a, .int .i64 b] w fun e w' => e = .returned (.int .i64 (cmpI a b)) ∧ w = w' := by
  go_enter Tryz.func42, Tryz.ntmps42
  go_wp2_with (first | (go_at_call 70; with_reducible refine (isNaN_int _ _).mono ?_; rintro e w' ⟨rfl, rfl⟩))
  all_goals (go_ret; refine ⟨?_, rfl⟩)
  all_goals first | (rw [cmpI_less (by omega)]; rfl) | (rw [cmpI_same (by omega)]; rfl) | (rw [cmpI_more (by omega) (by omega)]; rfl)
end Go.Proofs.YtpbljjbhfhfmgaaGreatDoor
/- slices.Clone by its contract. -/
namespace Go.Proofs.YtpbljjbhfhfmgaaGreatDoor
set_option maxRecDepth 100000
open Go.RowKit


end Go.Proofs.YtpbljjbhfhfmgaaGreatDoor
/- joistref01.Bytes by its contract. -/
namespace Go.Proofs.YtpbljjbhfhfmgaaGreatDoor
set_option maxRecDepth 100000
open Go.RowKit

end Go.Proofs.YtpbljjbhfhfmgaaGreatDoor
/- The block of a heap of pages: its cells, read and written. -/
namespace Go.Proofs.YtpbljjbhfhfmgaaGreatDoor
set_option maxRecDepth 100000
open Go.RowKit
set_option linter.unusedVariables false
set_option linter.unusedSimpArgs false
set_option maxRecDepth 100000

/-- The cells of a heap of N pages: each page's kind and its words, and how many there are. -/
def hpF (N : Nat) (s : HpS) (i : Nat) : Value := if i = 2112 then .int .i64 (N : Int) else if i % 33 = 0 then .int .i64 (if i / 33 < N then s.kd (i / 33) else 0) else .bool (s.tk (i / 33) (i % 33 - 1))
def hpC (N : Nat) (s : HpS) : Array Value := ((List.range 2113).map (hpF N s)).toArray
theorem hpC_size (N : Nat) (s : HpS) : (hpC N s).size = 2113 := by simp [hpC]
theorem hpF_one (N : Nat) (s : HpS) (i : Nat) : (hpF N s i).oneCell' = true := by
  unfold hpF
  split
  · rfl
  · split <;> rfl
theorem hpC_one (N : Nat) (s : HpS) : (hpC N s).all (·.oneCell') = true := Array.all_eq_true_iff_forall_mem.2 (fun v hv => by
  simp only [hpC, List.mem_toArray, List.mem_map] at hv
  obtain ⟨i, _, rfl⟩ := hv
  exact hpF_one N s i)
theorem hpC_get (N : Nat) (s : HpS) {i : Nat} (h : i < 2113) : (hpC N s)[i]? = some (hpF N s i) := by simp [hpC, h]
theorem hpF_kd {N : Nat} {s : HpS} {i : Nat} (h : i < N) (hN : N ≤ 64) : hpF N s (i * 33) = .int .i64 (s.kd i) := by
  unfold hpF
  rw [if_neg (by omega), if_pos (by omega), show i * 33 / 33 = i by omega, if_pos h]
theorem hpF_tk {N : Nat} {s : HpS} {i j : Nat} (h : i < 64) (hj : j < 32) : hpF N s (i * 33 + 1 + j) = .bool (s.tk i j) := by
  unfold hpF
  rw [if_neg (by omega), if_neg (by omega), show (i * 33 + 1 + j) / 33 = i by omega, show (i * 33 + 1 + j) % 33 - 1 = j by omega]
theorem hpF_n (N : Nat) (s : HpS) : hpF N s 2112 = .int .i64 (N : Int) := if_pos rfl
/-- What is alike is alike. -/
theorem hpC_eq {N : Nat} {s t : HpS} (hk : ∀ i, i < N → s.kd i = t.kd i) (ht : ∀ i j, i < 64 → j < 32 → s.tk i j = t.tk i j) : hpC N s = hpC N t := by
  unfold hpC
  congr 1
  refine List.map_congr_left fun i hi => ?_
  rw [List.mem_range] at hi
  unfold hpF
  by_cases h1 : i = 2112
  · rw [if_pos h1, if_pos h1]
  · rw [if_neg h1, if_neg h1]
    by_cases h2 : i % 33 = 0
    · rw [if_pos h2, if_pos h2]
      by_cases h3 : i / 33 < N
      · rw [if_pos h3, if_pos h3, hk _ h3]
      · rw [if_neg h3, if_neg h3]
    · rw [if_neg h2, if_neg h2, ht _ _ (by omega) (by omega)]
/-- The block b is a heap of N pages. -/
def Hpb (w : World) (b N : Nat) (s : HpS) : Prop := w.heap[b]? = some (.cells (hpC N s) 135 (0, 0))
theorem Hpb.lt {w : World} {b N : Nat} {s : HpS} (h : Hpb w b N s) : b < w.heap.size := (Array.getElem?_eq_some_iff.1 h).1
theorem Hpb.kept {w w' : World} {b N : Nat} {s : HpS} (h : Hpb w b N s) (hb : Below w.heap.size w w') : Hpb w' b N s := (hb.block b h.lt).trans h
theorem Hpb.off {F : Nat → Prop} {w w' : World} {b N : Nat} {s : HpS} (h : Hpb w b N s) (ho : Off F w w') (hn : ¬ F b) : Hpb w' b N s := (ho.block b h.lt hn).trans h
theorem Hpb.eq {w : World} {b N : Nat} {s t : HpS} (h : Hpb w b N s) (hk : ∀ i, i < N → s.kd i = t.kd i) (ht : ∀ i j, i < 64 → j < 32 → s.tk i j = t.tk i j) : Hpb w b N t := by
  unfold Hpb at *
  rw [← hpC_eq hk ht]; exact h
theorem Hpb.free {w : World} {b N : Nat} {s : HpS} (h : Hpb w b N s) (k : Nat) : w.frozen? ⟨b, k, none⟩ = false := frozen_of_row w b k _ 135 h
theorem Hpb.cell {w : World} {b N : Nat} {s : HpS} (h : Hpb w b N s) {i : Nat} (hi : i < 2113) : w.cell? ⟨b, i, none⟩ = some (hpF N s i) := by
  rw [cell_of_row w b i _ 135 (0, 0) h]
  exact hpC_get N s hi
theorem Hpb.kind {w : World} {b N : Nat} {s : HpS} (h : Hpb w b N s) {i : Nat} (hi : i < N) (hN : N ≤ 64) : w.cell? ⟨b, i * 33, none⟩ = some (.int .i64 (s.kd i)) := by
  rw [h.cell (by omega), hpF_kd hi hN]
theorem Hpb.word {w : World} {b N : Nat} {s : HpS} (h : Hpb w b N s) {i j : Nat} (hi : i < 64) (hj : j < 32) : w.cell? ⟨b, i * 33 + 1 + j, none⟩ = some (.bool (s.tk i j)) := by
  rw [h.cell (by omega), hpF_tk hi hj]
theorem Hpb.count {w : World} {b N : Nat} {s : HpS} (h : Hpb w b N s) : w.cell? ⟨b, 2112, none⟩ = some (.int .i64 (N : Int)) := by
  rw [h.cell (by omega), hpF_n]
theorem Hpb.set {w : World} {b N : Nat} {s t : HpS} (h : Hpb w b N s) {k : Nat} (hk : k < 2113) {v : Value} (hv : hpF N t k = v) (ho : ∀ i, i < 2113 → i ≠ k → hpF N t i = hpF N s i) : Hpb (w.setCell ⟨b, k, none⟩ v) b N t := by
  unfold Hpb
  rw [heap_setCell_same w b k _ 135 _ h]
  congr 2
  apply Array.ext'
  rw [Array.toList_setIfInBounds]
  unfold hpC
  apply List.ext_getElem?
  intro i
  rw [List.getElem?_set]
  by_cases e : k = i
  · subst e
    rw [if_pos rfl, if_pos (by simp [hk])]
    simp [hk, hv]
  · rw [if_neg e]
    by_cases hi : i < 2113
    · simp [hi, ho i hi (fun x => e x.symm)]
    · simp [hi]
/-- A kind stored. -/
def HpS.setK (s : HpS) (i : Nat) (v : Int) : HpS := ⟨fun x => if x = i then v else s.kd x, s.tk⟩
theorem Hpb.setK {w : World} {b N : Nat} {s : HpS} (h : Hpb w b N s) {i : Nat} (hi : i < N) (hN : N ≤ 64) (v : Int) : Hpb (w.setCell ⟨b, i * 33, none⟩ (.int .i64 v)) b N (s.setK i v) := by
  refine h.set (by omega) ?_ (fun k hk hne => ?_)
  · rw [hpF_kd hi hN]
    simp [HpS.setK]
  · unfold hpF
    by_cases h1 : k = 2112
    · rw [if_pos h1, if_pos h1]
    · rw [if_neg h1, if_neg h1]
      by_cases h2 : k % 33 = 0
      · rw [if_pos h2, if_pos h2]
        have e : (s.setK i v).kd (k / 33) = s.kd (k / 33) := if_neg (by omega)
        rw [e]
      · rw [if_neg h2, if_neg h2]
        rfl
/-- A word taken. -/
def HpS.setW (s : HpS) (i j : Nat) : HpS := ⟨s.kd, fun x y => if x = i ∧ y = j then true else s.tk x y⟩
theorem Hpb.setW {w : World} {b N : Nat} {s : HpS} (h : Hpb w b N s) {i j : Nat} (hi : i < 64) (hj : j < 32) : Hpb (w.setCell ⟨b, i * 33 + 1 + j, none⟩ (.bool true)) b N (s.setW i j) := by
  refine h.set (by omega) ?_ (fun k hk hne => ?_)
  · rw [hpF_tk hi hj]
    simp [HpS.setW]
  · unfold hpF
    by_cases h1 : k = 2112
    · rw [if_pos h1, if_pos h1]
    · rw [if_neg h1, if_neg h1]
      by_cases h2 : k % 33 = 0
      · rw [if_pos h2, if_pos h2]
        rfl
      · rw [if_neg h2, if_neg h2]
        simp only [HpS.setW]
        rw [if_neg (by omega)]
theorem put_set (s : HpS) (p : Blk) : s.put p = (s.setK p.pos.toNat p.sz).setW p.pos.toNat p.ix.toNat := rfl
/-- The heap that is nothing. -/
def hpz : HpS := ⟨fun _ => 0, fun _ _ => false⟩
theorem hp_info : (Tryz.prog.info? 135).map (fun i => (i.zero, i.size)) = some (some (.agg (hpC 0 hp0)), 2113) := by kernel_rfl
theorem hp_size : (Tryz.prog.info? 135).map (·.size) = some 2113 := by kernel_rfl
theorem hp_built : Tryz.prog.built 135 [] = some (hpC 0 hp0) := by kernel_rfl
theorem hp_built1 (v : Int) : Tryz.prog.built 135 [(1, .int .i64 v)] = some ((hpC 0 hp0).setIfInBounds 2112 (.int .i64 v)) := by kernel_rfl
theorem hpC_n (N : Nat) : (hpC 0 hp0).setIfInBounds 2112 (.int .i64 (N : Int)) = hpC N hpz := by
  unfold hpC
  apply Array.ext'
  rw [Array.toList_setIfInBounds]
  apply List.ext_getElem?
  intro i
  rw [List.getElem?_set]
  by_cases e : 2112 = i
  · subst e
    rw [if_pos rfl, if_pos (by simp)]
    simp [hpF]
  · rw [if_neg e]
    by_cases hi : i < 2113
    · simp only [List.getElem?_map, List.getElem?_range hi, Option.map_some]
      congr 1
      have h1 : ¬ i = 2112 := fun x => e x.symm
      unfold hpF
      by_cases h2 : i % 33 = 0
      · rw [if_neg h1, if_pos h2, if_neg h1, if_pos h2]
        simp [hpz]
      · rw [if_neg h1, if_neg h2, if_neg h1, if_neg h2]
        rfl
    · simp [hi]
end Go.Proofs.YtpbljjbhfhfmgaaGreatDoor
