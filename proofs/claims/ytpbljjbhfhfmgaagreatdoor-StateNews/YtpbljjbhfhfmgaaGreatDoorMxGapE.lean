/- GapE: these texts, one behind another. -/
import Derived.Test.YtpbljjbhfhfmgaaGreatDoorMxGapA
import Derived.Test.YtpbljjbhfhfmgaaGreatDoorMxInfo
import Derived.Deep.RegionWith
import Derived.Deep.RegionHeld3
/- cmp.Or of numbers; gaps.better, Best by their contracts. -/
namespace Go.Proofs.YtpbljjbhfhfmgaaGreatDoor
set_option maxRecDepth 100000
open Go.RowKit
set_option linter.unusedVariables false
set_option linter.unusedSimpArgs false
set_option maxRecDepth 100000

/-- The first one that is not 0. -/
def orI : List Int → Int
  | [] => 0
  | z :: r => if z = 0 then orI r else z
theorem orI_zero {k : Nat} {zs : List Int} (h : zs.getD k 0 = 0) : orI (zs.drop k) = orI (zs.drop (k + 1)) := by
  by_cases hk : k < zs.length
  · rw [List.drop_eq_getElem_cons hk, orI, if_pos (by simpa [List.getD, List.getElem?_eq_getElem hk] using h)]
  · rw [List.drop_of_length_le (by omega), List.drop_of_length_le (by omega)]
theorem orI_not {k : Nat} {zs : List Int} (hk : k < zs.length) (h : zs.getD k 0 ≠ 0) : orI (zs.drop k) = zs.getD k 0 := by
  have e : zs[k] = zs.getD k 0 := by simp [List.getD, List.getElem?_eq_getElem hk]
  rw [List.drop_eq_getElem_cons hk, orI, e, if_neg h]
theorem orI_end {k : Nat} {zs : List Int} (hk : ¬ k < zs.length) : orI (zs.drop k) = 0 := by rw [List.drop_of_length_le (by omega)]; rfl
theorem or_any (ao : Option Addr) (n cap : Nat) (zs : List Int) (w : World) (hsl : Sl .i64 w ao n cap zs) (hn : n ≤ 9223372036854775807) :
    Calls Tryz.prog 41 #[.slice ao n cap] w fun e w' => e = .returned (.int .i64 (orI zs)) ∧ w = w' := by
  have hl := hsl.len
  go_enter Tryz.func41, Tryz.ntmps41
  go_wp2
  go_loopw [8] (fun s8 wr => ∃ k : Nat, k ≤ n ∧ s8 = .int .i64 k ∧ Hid (orI zs = orI (zs.drop k)) ∧ w = wr) (fun s8 _ => n - (intOf s8).toNat)
  case atStart => exact ⟨0, Nat.zero_le _, rfl, hid rfl, rfl⟩
  case round =>
    obtain ⟨k, hk, rfl, HO, rfl⟩ := hrel
    by_cases hlt : k < n
    · obtain ⟨b, o, rfl, _, hc⟩ := hsl.here (by omega)
      have c0 := hc k hlt
      have hki : (k : Int) < (n : Int) := by omega
      obtain ⟨z, hz⟩ : ∃ z, zs.getD k 0 = z := ⟨_, rfl⟩
      by_cases h0 : z = 0
      · have HN : Hid (orI zs = orI (zs.drop (k + 1))) := hid (by rw [HO.out]; exact orI_zero (by rw [hz]; exact h0))
        rw [hz, h0] at c0
        clear hc hsl HO hz h0
        go_wp2
        go_roundw
        case rel => exact ⟨k + 1, by omega, by go_num, HN, trivial⟩
        case measure => simp [intOf]; omega
      · have HN : Hid (orI zs = z) := hid (by rw [HO.out, orI_not (by omega) (by rw [hz]; exact h0), hz])
        rw [hz] at c0
        have h1 : (z != 0) = true := by simpa using h0
        clear hc hsl HO hz h0
        go_wp2
        go_ret
        exact ⟨by rw [HN.out]; rfl, rfl⟩
    · have HN : Hid (orI zs = 0) := hid (by rw [HO.out]; exact orI_end (by omega))
      obtain rfl : k = n := by omega
      clear hsl HO
      go_wp2
      go_ret
      exact ⟨by rw [HN.out]; rfl, rfl⟩
theorem or_btr (a b : Spn) : decide (orI [cmpI a.sz b.sz, cmpI a.pos b.pos] < 0) = btrB a b := by
  unfold btrB BtrP
  congr 1
  simp only [orI]
  by_cases h1 : a.sz < b.sz
  · rw [cmpI_less h1, if_neg (by omega)]; simp; omega
  · by_cases h2 : a.sz = b.sz
    · rw [cmpI_same h2, if_pos rfl]
      by_cases h3 : a.pos < b.pos
      · rw [cmpI_less h3, if_neg (by omega)]; simp; omega
      · by_cases h4 : a.pos = b.pos
        · rw [cmpI_same h4, if_pos rfl]; simp; omega
        · rw [cmpI_more h3 h4, if_neg (by omega)]; simp; omega
    · rw [cmpI_more h1 h2, if_neg (by omega)]; simp; omega
/-- Two numbers in a new block. -/
theorem sl_two (w : World) (k : Nat) (x y : Int) (hk : w.heap.size = k) : Sl .i64 (w.alloc (.cells #[.int .i64 x, .int .i64 y] 3)) (some ⟨k, 0, none⟩) 2 2 [x, y] := by
  subst hk
  refine ⟨rfl, Nat.le_refl _, (by intro h; cases h), fun _ => ⟨w.heap.size, 0, rfl, by simp, fun i hi => ?_⟩⟩
  rw [Nat.zero_add, cell_of_row _ w.heap.size i _ 3 (0, 0) (heap_alloc_new w _)]
  match i, hi with
  | 0, _ => rfl
  | 1, _ => rfl
end Go.Proofs.YtpbljjbhfhfmgaaGreatDoor
