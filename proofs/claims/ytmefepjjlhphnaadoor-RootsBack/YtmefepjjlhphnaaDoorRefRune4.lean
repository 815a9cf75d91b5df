/- joistref06.runeOf: a rune of 4 bytes. -/
import Derived.Test.YtmefepjjlhphnaaDoorRefRuneA
namespace Go.Proofs.YtmefepjjlhphnaaDoor
set_option maxRecDepth 100000
open Go.RowKit
set_option linter.unusedVariables false
set_option linter.unusedSimpArgs false
set_option maxRecDepth 100000

/-- What is reckoned of the bytes 1 to i - 1. -/
def valN (a0 : Int) (n : Nat → Nat) : Nat → Int
  | 0 => a0
  | 1 => a0
  | i + 2 => valN a0 n (i + 1) * 64 + n (i + 1) - 128
/-- So far. -/
def SoFar (a0 : Int) (n : Nat → Nat) (i : Nat) (a : Int) : Prop := (∀ j, 1 ≤ j → j < i → 128 ≤ n j ∧ n j < 192) ∧ a = valN a0 n i ∧ (i ≤ 1 → a ≤ 4) ∧ (i ≤ 2 → a ≤ 319) ∧ (i ≤ 3 → a ≤ 20479)
theorem SoFar.next {a0 : Int} {n : Nat → Nat} {i : Nat} {a : Int} (h : SoFar a0 n i a) (h1 : 1 ≤ i) (ha : 0 ≤ a) (hc : 128 ≤ n i ∧ n i < 192) : SoFar a0 n (i + 1) (a * 64 + n i - 128) := by
  obtain ⟨p, q, r1, r2, r3⟩ := h
  obtain ⟨k, rfl⟩ : ∃ k, i = k + 1 := ⟨i - 1, by omega⟩
  refine ⟨fun j j1 j2 => ?_, ?_, fun e => by omega, fun e => ?_, fun e => ?_⟩
  · by_cases e : j = k + 1
    · rw [e]; exact hc
    · exact p j j1 (by omega)
  · rw [q]; rfl
  · have := r1 (by omega); omega
  · have := r2 (by omega); omega

theorem runeOf_four' (s : ByteArray) (w : World) (h0 : 0 < s.size) (hs : s.size ≤ 9223372036854775807) (h4 : 4 ≤ (s.size : Int)) (n0 : Nat) (e0 : (s[0]'h0).toNat = n0) (hw0 : wrap64 (n0 : Int) = n0) (hc : 240 ≤ (n0 : Int) ∧ (n0 : Int) < 245)
    (n : Nat → Nat) (he : Hid (∀ i (h : i < s.size), (s[i]'h).toNat = n i)) (hwn : Hid (∀ i, wrap64 (n i : Int) = n i)) (hbn : Hid (∀ i, n i < 256))
    (C : Prop) [Decidable C] (V : Nat) (hL : Hid (runeL s.data.toList = if C then (V, 4) else (0, 0))) (fC : Hid (C → (∀ j, 1 ≤ j → j < 4 → 128 ≤ n j ∧ n j < 192) ∧ 65536 ≤ V ∧ V ≤ 1114111))
    (g : Hid ((∀ j, 1 ≤ j → j < 4 → 128 ≤ n j ∧ n j < 192) → 65536 ≤ V ∧ V ≤ 1114111 → C))
    (v : Hid ((∀ j, 1 ≤ j → j < 4 → 128 ≤ n j ∧ n j < 192) → (V : Int) = valN ((n0 : Int) - 240) n 4)) :
    Calls Tryd.prog 55 #[.string s] w fun e w' => e = .returned (.tuple #[.int .i64 (runeL s.data.toList).1, .int .i64 (runeL s.data.toList).2]) ∧ w = w' := by
  go_enter Tryd.func55, Tryd.ntmps55
  go_wp2
  all_goals first | (exfalso; omega) | skip
  go_loop [5, 8] (fun va vi => ∃ (i : Nat) (a : Int), 1 ≤ i ∧ i ≤ 4 ∧ vi = .int .i64 i ∧ va = .int .i64 a ∧ 0 ≤ a ∧ Hid (SoFar ((n0 : Int) - 240) n i a)) (fun _ vi => 4 - (intOf vi).toNat)
  case atStart =>
    refine ⟨1, (n0 : Int) - 240, Nat.le_refl _, by omega, rfl, rfl, by omega, ⟨fun j j1 j2 => absurd j1 (by omega), rfl, fun _ => by omega, fun _ => by omega, fun _ => by omega⟩⟩
  case round =>
    obtain ⟨i, a, i1, i4, rfl, rfl, a0, hq⟩ := hrel
    by_cases hi : i < 4
    · have hi' : (i : Int) < 4 := by omega
      have his : i < s.size := by omega
      have ei := he i his
      have wi := hwn i
      have bi := hbn i
      have ha : a ≤ 20479 := hq.2.2.2.2 (by omega)
      have hstep := hq.next i1 a0
      have hno : Hid (¬ (128 ≤ n i ∧ n i < 192) → ¬ C) := fun h c => h ((fC c).1 i i1 hi)
      obtain ⟨z, hz⟩ : ∃ z, n i = z := ⟨_, rfl⟩
      rw [hz] at ei wi bi hno hstep
      have hstep' : Hid (128 ≤ z ∧ z < 192 → SoFar ((n0 : Int) - 240) n (i + 1) (a * 64 + z - 128)) := hstep
      clear hz hstep
      go_wp2
      · go_ret2
        exact ⟨ret_neg hL (hno (by omega)), rfl⟩
      rotate_left
      · go_ret2
        exact ⟨ret_neg hL (hno (by omega)), rfl⟩
      refine ⟨⟨i + 1, a * 64 + (z : Int) - 128, by omega, by omega, by simp, rfl, by omega, hstep' (by omega)⟩, ?_⟩
      simp only [intOf]
      omega
    · obtain rfl : i = 4 := by omega
      have hV : Hid ((V : Int) = a) := (v hq.1).trans hq.2.1.symm
      have hall : Hid (∀ j, 1 ≤ j → j < 4 → 128 ≤ n j ∧ n j < 192) := hq.1
      have hno : Hid (¬ (65536 ≤ a ∧ a ≤ 1114111) → ¬ C) := fun h c => by
        have h1 := (fC c).2
        have h2 : (V : Int) = a := hV
        omega
      have hyes : Hid (65536 ≤ a ∧ a ≤ 1114111 → C) := fun h => g hall (by
        have h2 : (V : Int) = a := hV
        omega)
      clear v g fC he hwn hbn hq
      go_wp2
      · go_ret2
        exact ⟨ret_pos hL (hyes (by omega)) hV rfl, rfl⟩
      · go_ret2
        exact ⟨ret_neg hL (hno (by omega)), rfl⟩
      · go_ret2
        exact ⟨ret_neg hL (hno (by omega)), rfl⟩

theorem runeOf_four (s : ByteArray) (w : World) (h0 : 0 < s.size) (hs : s.size ≤ 9223372036854775807) (n : Nat → Nat) (he : ∀ i (h : i < s.size), (s[i]'h).toNat = n i) (hbn : ∀ i, n i < 256) (h4 : 4 ≤ s.size) (hc : 240 ≤ (n 0 : Int) ∧ (n 0 : Int) < 245)
    (hL : runeL s.data.toList = runeB s.size (n 0) (n 1) (n 2) (n 3)) :
    Calls Tryd.prog 55 #[.string s] w fun e w' => e = .returned (.tuple #[.int .i64 (runeL s.data.toList).1, .int .i64 (runeL s.data.toList).2]) ∧ w = w' := by
  rw [rB4 _ _ _ _ _ (by omega)] at hL
  refine runeOf_four' s w h0 hs (by omega) (n 0) (he 0 h0) (wrap_byte _ (hbn 0)) hc n he (fun i => wrap_byte _ (hbn i)) hbn _ _ hL (fun c => ⟨fun j j1 j2 => ?_, c.2.2.2.2⟩) (fun p q => ⟨by omega, p 1 (by omega) (by omega), p 2 (by omega) (by omega), p 3 (by omega) (by omega), q⟩) (fun p => ?_)
  · obtain rfl | rfl | rfl : j = 1 ∨ j = 2 ∨ j = 3 := by omega
    · exact c.2.1
    · exact c.2.2.1
    · exact c.2.2.2.1
  · have p1 := p 1 (by omega) (by omega)
    have p2 := p 2 (by omega) (by omega)
    have p3 := p 3 (by omega) (by omega)
    show _ = (((((n 0 : Nat) : Int) - 240) * 64 + n 1 - 128) * 64 + n 2 - 128) * 64 + n 3 - 128
    clear hL he hbn p
    generalize n 0 = n0 at *
    generalize n 1 = n1 at *
    generalize n 2 = n2 at *
    generalize n 3 = n3 at *
    obtain ⟨m0, rfl⟩ : ∃ m, n0 = m + 240 := ⟨n0 - 240, by omega⟩
    obtain ⟨m1, rfl⟩ : ∃ m, n1 = m + 128 := ⟨n1 - 128, by omega⟩
    obtain ⟨m2, rfl⟩ : ∃ m, n2 = m + 128 := ⟨n2 - 128, by omega⟩
    obtain ⟨m3, rfl⟩ : ∃ m, n3 = m + 128 := ⟨n3 - 128, by omega⟩
    simp only [Nat.add_sub_cancel]
    omega
end Go.Proofs.YtmefepjjlhphnaaDoor
