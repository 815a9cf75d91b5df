/- slices.Grow of none, slices.Concat by their contracts. -/
import Derived.Test.YtfglbhdfdpnnfaaDoorClone
import Derived.Test.YtfglbhdfdpnnfaaDoorApp
import Derived.Lib.AppendZeros
namespace Go.Proofs.YtfglbhdfdpnnfaaDoor
set_option maxRecDepth 100000
open Go.RowKit

theorem grow_any (n : Nat) (w : World) (hn : n ≤ 140737488355328) :
    Calls Tryd.prog 42 #[.slice none 0 0, .int .i64 n] w fun e w' => ∃ ao c, e = .returned (.slice ao 0 c) ∧ Own .u8 5 w.heap.size w' ao 0 c [] ∧ Below w.heap.size w w' := by
  obtain ⟨i0, hi, hz0, hz1, hz2⟩ := info_parts Tryd.info5
  by_cases h0 : 0 < n
  · have hr := Lib.run_append_nil_zeros (P := Tryd.prog) w 24 3 24 5 i0 (.int .u8 0) .i64 .i64 Tryd.underlying24 Tryd.underlying3 hi hz0 n h0 (by omega) (by omega) (by rw [hz2]; omega)
    go_enter Tryd.func42, Tryd.ntmps42
    go_wp2_with (at_builtin; refine Lib.wpList_append_run _ rfl _ _ 24 3 rfl _ _ rfl rfl _ _ hr ?_)
    go_ret
    have g1 := grownCap_ge w n 0 5
    have g2 := grownCap_le_maxLen w n 0 5 (by unfold maxLen; omega)
    refine ⟨_, _, rfl, ⟨rfl, rfl, Or.inr ⟨w.heap.size, _, _, rfl, Nat.le_refl _, heap_alloc_new _ _, Nat.zero_le _, g2, ?_, rfl⟩⟩, ((Below.refl _ _).drew).alloc (Nat.le_refl _) _⟩
    rw [Array.size_append, size_zeroCells, size_zeroCells]
    simp
    omega
  · obtain rfl : n = 0 := by omega
    go_enter Tryd.func42, Tryd.ntmps42
    go_wp2
    go_ret
    exact ⟨none, 0, rfl, own_nil _ _ _ _, Below.refl _ _⟩

/-- How many bytes the first rows have; which. -/
def tot (n : Nat → Nat) : Nat → Nat
  | 0 => 0
  | k + 1 => tot n k + n k
def cat (zs : Nat → List Int) : Nat → List Int
  | 0 => []
  | k + 1 => cat zs k ++ zs k
theorem tot_mono (n : Nat → Nat) {j k : Nat} (h : j ≤ k) : tot n j ≤ tot n k := by
  induction k with
  | zero => obtain rfl : j = 0 := by omega
            exact Nat.le_refl _
  | succ k ih =>
    by_cases e : j = k + 1
    · subst e; exact Nat.le_refl _
    · have := ih (by omega)
      simp only [tot]
      omega

theorem concat_any (R L c0 : Nat) (ao : Nat → Option Addr) (n c : Nat → Nat) (zs : Nat → List Int) (w : World) (hR : ∀ i, i < L → w.cell? ⟨R, i, none⟩ = some (.slice (ao i) (n i) (c i))) (hRl : R < w.heap.size)
    (hsl : ∀ i, i < L → Sl .u8 w (ao i) (n i) (c i) (zs i)) (hn : tot n L ≤ 140737488355328) (hL : L ≤ 200) :
    Calls Tryd.prog 33 #[.slice (some ⟨R, 0, none⟩) L c0] w fun e w' => ∃ bo m, e = .returned (.slice bo (tot n L) m) ∧ Own .u8 5 w.heap.size w' bo (tot n L) m (cat zs L) ∧ Below w.heap.size w w' := by
  go_enter Tryd.func33, Tryd.ntmps33
  go_wp2
  go_loop [3, 11] (fun q i => ∃ k : Nat, k ≤ L ∧ i = .int .i64 k ∧ q = .int .i64 (tot n k : Nat)) (fun _ i => L - (intOf i).toNat)
  case atStart => exact ⟨0, Nat.zero_le _, rfl, rfl⟩
  case round =>
    obtain ⟨k, hk, rfl, rfl⟩ := hrel
    have hkb := tot_mono n hk
    by_cases hlt : k < L
    · have hcell := hR k hlt
      have HS : Hid (tot n (k + 1) = tot n k + n k) := rfl
      have hkb' := tot_mono n (show k + 1 ≤ L from hlt)
      rw [HS.out] at hkb'
      generalize tot n k = T at *
      generalize n k = N at *
      generalize ao k = A at *
      generalize c k = C at *
      clear hsl hR
      go_wp2
      go_round
      case rel => exact ⟨k + 1, by omega, by go_num, by rw [HS.out]; rfl⟩
      case measure => simp [intOf]; omega
    · obtain rfl : k = L := by omega
      go_wp2_with (go_at_call 42; refine (grow_any (tot n k) _ hn).mono ?_; rintro e w1 ⟨bo, m, rfl, hown, hbel⟩)
      go_loopw [6, 27] (fun q i wr => ∃ (j : Nat) (bo : Option Addr) (m : Nat), j ≤ k ∧ i = .int .i64 j ∧ q = .slice bo (tot n j) m ∧ Own .u8 5 w.heap.size wr bo (tot n j) m (cat zs j) ∧ Below w.heap.size w wr) (fun _ i _ => k - (intOf i).toNat)
      case atStart => exact ⟨0, bo, m, Nat.zero_le _, rfl, rfl, hown, hbel⟩
      case round =>
        clear hown hbel
        obtain ⟨j, bo, m, hj, rfl, rfl, hown, hbel⟩ := hrel
        by_cases hlj : j < k
        · have hcell : wr.cell? ⟨R, j, none⟩ = some (.slice (ao j) (n j) (c j)) := by rw [hbel.cell (p := ⟨R, j, none⟩) hRl]; exact hR j hlj
          have hs := (hsl j hlj).below hbel
          have hkb' := tot_mono n (show j + 1 ≤ k from hlj)
          have HS : Hid (tot n (j + 1) = tot n j + n j) := rfl
          have HC : Hid (cat zs (j + 1) = cat zs j ++ zs j) := rfl
          rw [HS.out] at hkb'
          have hb2 : tot n j + n j ≤ 140737488355328 := by omega
          have hsz := hbel.size
          generalize tot n j = T at *
          generalize n j = N at *
          generalize ao j = A at *
          generalize c j = C at *
          generalize zs j = Z at *
          clear hsl hR
          go_wp2_with (at_builtin; refine append_sl rfl _ _ rfl w.heap.size _ T _ rfl hown.row A N C Z rfl hs hb2 hsz ?_; intro bo' c' w' hown' hgrow _; have hb' := hbel.grown hgrow hsz (fun b hb' => (hown.row.lt b hb').1))
          go_roundw
          case rel => exact ⟨j + 1, bo', c', by omega, by go_num, by rw [HS.out], by rw [HS.out, HC.out]; exact hown', hb'⟩
          case measure => simp [intOf]; omega
        · obtain rfl : j = k := by omega
          go_wp2
          go_ret
          exact ⟨bo, m, rfl, hown, hbel⟩

def f2 {α : Type} (a b : α) : Nat → α
  | 0 => a
  | _ => b
theorem concat_two (R c : Nat) (a0 a1 : Option Addr) (n0 n1 c0 c1 : Nat) (z0 z1 : List Int) (w : World) (h0 : w.cell? ⟨R, 0, none⟩ = some (.slice a0 n0 c0)) (h1 : w.cell? ⟨R, 1, none⟩ = some (.slice a1 n1 c1)) (hR : R < w.heap.size)
    (s0 : Sl .u8 w a0 n0 c0 z0) (s1 : Sl .u8 w a1 n1 c1 z1) (hn : n0 + n1 ≤ 140737488355328) :
    Calls Tryd.prog 33 #[.slice (some ⟨R, 0, none⟩) 2 c] w fun e w' => ∃ bo m, e = .returned (.slice bo (n0 + n1) m) ∧ Own .u8 5 w.heap.size w' bo (n0 + n1) m (z0 ++ z1) ∧ Below w.heap.size w w' := by
  have e1 : tot (f2 n0 n1) 2 = n0 + n1 := by simp [tot, f2]
  have e2 : cat (f2 z0 z1) 2 = z0 ++ z1 := by simp [cat, f2]
  have h := concat_any R 2 c (f2 a0 a1) (f2 n0 n1) (f2 c0 c1) (f2 z0 z1) w
    (fun i hi => match i, hi with
      | 0, _ => h0
      | 1, _ => h1) hR
    (fun i hi => match i, hi with
      | 0, _ => s0
      | 1, _ => s1) (by rw [e1]; exact hn) (by omega)
  rw [e1, e2] at h
  exact h
end Go.Proofs.YtfglbhdfdpnnfaaDoor
