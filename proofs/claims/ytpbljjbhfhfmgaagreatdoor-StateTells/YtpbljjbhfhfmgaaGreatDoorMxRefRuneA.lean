/- RefRuneA · RefRune2 · RefRune3 · RefRune4 · RefRune: these texts, one behind another. -/
import Derived.Test.YtpbljjbhfhfmgaaGreatDoorMxNamesP
import Derived.Handy
/- joistref06.runeOf: the first ways. -/
namespace Go.Proofs.YtpbljjbhfhfmgaaGreatDoor
set_option maxRecDepth 100000
open Go.RowKit
set_option linter.unusedVariables false
set_option linter.unusedSimpArgs false

theorem wrap_byte (n : Nat) (h : n < 256) : wrap64 (n : Int) = n := by unfold wrap64; omega
theorem get_at' (s : ByteArray) (i : Nat) (h : i < s.size) : (s[i]'h).toNat = (s.data.toList.getD i 0).toNat := by
  have : s.data.toList.getD i 0 = s[i]'h := by
    rw [List.getD_eq_getElem?_getD, List.getElem?_eq_getElem (by simpa using h)]
    simp
    rfl
  rw [this]
theorem rB1 (m n0 n1 n2 n3 : Nat) (h : n0 < 128) : runeB m n0 n1 n2 n3 = (n0, 1) := by unfold runeB; rw [if_pos h]
theorem rB0 (m n0 n1 n2 n3 : Nat) (h : (128 ≤ n0 ∧ n0 < 194) ∨ 245 ≤ n0) : runeB m n0 n1 n2 n3 = (0, 0) := by unfold runeB; rw [if_neg (by omega), if_neg (by omega), if_neg (by omega), if_neg (by omega)]
theorem rB2 (m n0 n1 n2 n3 : Nat) (h : 194 ≤ n0 ∧ n0 < 224) : runeB m n0 n1 n2 n3 = if 2 ≤ m ∧ 128 ≤ n1 ∧ n1 < 192 then ((n0 - 192) * 64 + (n1 - 128), 2) else (0, 0) := by
  unfold runeB; rw [if_neg (by omega), if_pos h]
theorem rB3 (m n0 n1 n2 n3 : Nat) (h : 224 ≤ n0 ∧ n0 < 240) : runeB m n0 n1 n2 n3 = if 3 ≤ m ∧ (128 ≤ n1 ∧ n1 < 192) ∧ (128 ≤ n2 ∧ n2 < 192) ∧ 2048 ≤ ((n0 - 224) * 64 + (n1 - 128)) * 64 + (n2 - 128) ∧ ¬ (55296 ≤ ((n0 - 224) * 64 + (n1 - 128)) * 64 + (n2 - 128) ∧ ((n0 - 224) * 64 + (n1 - 128)) * 64 + (n2 - 128) ≤ 57343) then (((n0 - 224) * 64 + (n1 - 128)) * 64 + (n2 - 128), 3) else (0, 0) := by
  unfold runeB; rw [if_neg (by omega), if_neg (by omega), if_pos h]
theorem rB4 (m n0 n1 n2 n3 : Nat) (h : 240 ≤ n0 ∧ n0 < 245) : runeB m n0 n1 n2 n3 = if 4 ≤ m ∧ (128 ≤ n1 ∧ n1 < 192) ∧ (128 ≤ n2 ∧ n2 < 192) ∧ (128 ≤ n3 ∧ n3 < 192) ∧ 65536 ≤ (((n0 - 240) * 64 + (n1 - 128)) * 64 + (n2 - 128)) * 64 + (n3 - 128) ∧ (((n0 - 240) * 64 + (n1 - 128)) * 64 + (n2 - 128)) * 64 + (n3 - 128) ≤ 1114111 then ((((n0 - 240) * 64 + (n1 - 128)) * 64 + (n2 - 128)) * 64 + (n3 - 128), 4) else (0, 0) := by
  unfold runeB; rw [if_neg (by omega), if_neg (by omega), if_neg (by omega), if_pos h]
theorem ret_rune {l : List UInt8} {A B : Int} {V K : Nat} (hL : Hid (runeL l = (V, K))) (h : (V : Int) = A) (h2 : (K : Int) = B) :
    Ending.returned (.tuple #[.int .i64 A, .int .i64 B]) = .returned (.tuple #[.int .i64 (runeL l).1, .int .i64 (runeL l).2]) := by
  rw [show runeL l = (V, K) from hL, ← h, ← h2]
theorem ret_pos {l : List UInt8} {C : Prop} [Decidable C] {A B : Int} {V K : Nat} (hL : Hid (runeL l = if C then (V, K) else (0, 0))) (hc : C) (h : (V : Int) = A) (h2 : (K : Int) = B) :
    Ending.returned (.tuple #[.int .i64 A, .int .i64 B]) = .returned (.tuple #[.int .i64 (runeL l).1, .int .i64 (runeL l).2]) :=
  ret_rune (show runeL l = (V, K) from (show runeL l = _ from hL).trans (if_pos hc)) h h2
theorem ret_neg {l : List UInt8} {C : Prop} [Decidable C] {V K : Nat} (hL : Hid (runeL l = if C then (V, K) else (0, 0))) (hc : ¬ C) :
    Ending.returned (.tuple #[.int .i64 0, .int .i64 0]) = .returned (.tuple #[.int .i64 (runeL l).1, .int .i64 (runeL l).2]) :=
  ret_rune (show runeL l = (0, 0) from (show runeL l = _ from hL).trans (if_neg hc)) rfl rfl

set_option maxRecDepth 100000
theorem runeOf_one (s : ByteArray) (w : World) (h0 : 0 < s.size) (hs : s.size ≤ 9223372036854775807) (n0 n1 n2 n3 : Nat) (e0 : (s[0]'h0).toNat = n0) (hL : Hid (runeL s.data.toList = (n0, 1)))
    (hw0 : wrap64 (n0 : Int) = n0) (hc : (n0 : Int) < 128) :
    Calls Tryz.prog 106 #[.string s] w fun e w' => e = .returned (.tuple #[.int .i64 (runeL s.data.toList).1, .int .i64 (runeL s.data.toList).2]) ∧ w = w' := by
  go_enter Tryz.func106, Tryz.ntmps106
  go_wp2
  go_ret2
  exact ⟨ret_rune hL rfl rfl, rfl⟩
theorem runeOf_none (s : ByteArray) (w : World) (h0 : 0 < s.size) (hs : s.size ≤ 9223372036854775807) (n0 n1 n2 n3 : Nat) (e0 : (s[0]'h0).toNat = n0) (hL : Hid (runeL s.data.toList = (0, 0)))
    (hw0 : wrap64 (n0 : Int) = n0) (hc : (128 ≤ (n0 : Int) ∧ (n0 : Int) < 194) ∨ 245 ≤ (n0 : Int)) :
    Calls Tryz.prog 106 #[.string s] w fun e w' => e = .returned (.tuple #[.int .i64 (runeL s.data.toList).1, .int .i64 (runeL s.data.toList).2]) ∧ w = w' := by
  go_enter Tryz.func106, Tryz.ntmps106
  go_wp2
  all_goals first | (exfalso; omega) | (go_ret2; exact ⟨ret_rune hL rfl rfl, rfl⟩)
theorem runeOf_short (s : ByteArray) (w : World) (h0 : 0 < s.size) (hs : s.size ≤ 9223372036854775807) (n0 n1 n2 n3 : Nat) (e0 : (s[0]'h0).toNat = n0) (hL : Hid (runeL s.data.toList = (0, 0)))
    (hw0 : wrap64 (n0 : Int) = n0) (hc : (194 ≤ (n0 : Int) ∧ (n0 : Int) < 224 ∧ (s.size : Int) < 2) ∨ (224 ≤ (n0 : Int) ∧ (n0 : Int) < 240 ∧ (s.size : Int) < 3) ∨ (240 ≤ (n0 : Int) ∧ (n0 : Int) < 245 ∧ (s.size : Int) < 4)) :
    Calls Tryz.prog 106 #[.string s] w fun e w' => e = .returned (.tuple #[.int .i64 (runeL s.data.toList).1, .int .i64 (runeL s.data.toList).2]) ∧ w = w' := by
  go_enter Tryz.func106, Tryz.ntmps106
  go_wp2
  all_goals first | (exfalso; omega) | (go_ret2; exact ⟨ret_rune hL rfl rfl, rfl⟩)
end Go.Proofs.YtpbljjbhfhfmgaaGreatDoor
/- joistref06.runeOf: a rune of 2 bytes. -/
namespace Go.Proofs.YtpbljjbhfhfmgaaGreatDoor
set_option maxRecDepth 100000
open Go.RowKit
set_option linter.unusedVariables false
set_option linter.unusedSimpArgs false
set_option maxRecDepth 100000
set_option maxHeartbeats 4000000
theorem runeOf_two (s : ByteArray) (w : World) (h0 : 0 < s.size) (hs : s.size ≤ 9223372036854775807) (n0 n1 n2 n3 : Nat) (e0 : (s[0]'h0).toNat = n0) (hL : Hid (runeL s.data.toList = if 2 ≤ s.size ∧ 128 ≤ n1 ∧ n1 < 192 then ((n0 - 192) * 64 + (n1 - 128), 2) else (0, 0)))
    (hw0 : wrap64 (n0 : Int) = n0) (hc : 194 ≤ (n0 : Int) ∧ (n0 : Int) < 224) (h1 : 1 < s.size) (e1 : (s[1]'h1).toNat = n1) (hw1 : wrap64 (n1 : Int) = n1) (hb1 : n1 < 256) :
    Calls Tryz.prog 106 #[.string s] w fun e w' => e = .returned (.tuple #[.int .i64 (runeL s.data.toList).1, .int .i64 (runeL s.data.toList).2]) ∧ w = w' := by
  go_enter Tryz.func106, Tryz.ntmps106
  go_wp2
  all_goals first | (exfalso; omega) | skip
  go_rounds 3
  all_goals first | (exfalso; omega) | (go_ret2; exact ⟨ret_pos hL (by omega) (by omega) rfl, rfl⟩) | (go_ret2; exact ⟨ret_neg hL (by omega), rfl⟩)
end Go.Proofs.YtpbljjbhfhfmgaaGreatDoor
/- joistref06.runeOf: a rune of 3 bytes. -/
namespace Go.Proofs.YtpbljjbhfhfmgaaGreatDoor
set_option maxRecDepth 100000
open Go.RowKit
set_option linter.unusedVariables false
set_option linter.unusedSimpArgs false
set_option maxRecDepth 100000
set_option maxHeartbeats 4000000
theorem runeOf_three (s : ByteArray) (w : World) (h0 : 0 < s.size) (hs : s.size ≤ 9223372036854775807) (n0 n1 n2 n3 : Nat) (e0 : (s[0]'h0).toNat = n0) (hL : Hid (runeL s.data.toList = if 3 ≤ s.size ∧ (128 ≤ n1 ∧ n1 < 192) ∧ (128 ≤ n2 ∧ n2 < 192) ∧ 2048 ≤ ((n0 - 224) * 64 + (n1 - 128)) * 64 + (n2 - 128) ∧ ¬ (55296 ≤ ((n0 - 224) * 64 + (n1 - 128)) * 64 + (n2 - 128) ∧ ((n0 - 224) * 64 + (n1 - 128)) * 64 + (n2 - 128) ≤ 57343) then (((n0 - 224) * 64 + (n1 - 128)) * 64 + (n2 - 128), 3) else (0, 0)))
    (hw0 : wrap64 (n0 : Int) = n0) (hc : 224 ≤ (n0 : Int) ∧ (n0 : Int) < 240) (h1 : 1 < s.size) (e1 : (s[1]'h1).toNat = n1) (hw1 : wrap64 (n1 : Int) = n1) (hb1 : n1 < 256) (h2 : 2 < s.size) (e2 : (s[2]'h2).toNat = n2) (hw2 : wrap64 (n2 : Int) = n2) (hb2 : n2 < 256) :
    Calls Tryz.prog 106 #[.string s] w fun e w' => e = .returned (.tuple #[.int .i64 (runeL s.data.toList).1, .int .i64 (runeL s.data.toList).2]) ∧ w = w' := by
  go_enter Tryz.func106, Tryz.ntmps106
  go_wp2
  all_goals first | (exfalso; omega) | skip
  go_rounds 4
  all_goals first | (exfalso; omega) | (go_ret2; exact ⟨ret_pos hL (by omega) (by omega) rfl, rfl⟩) | (go_ret2; exact ⟨ret_neg hL (by omega), rfl⟩)
end Go.Proofs.YtpbljjbhfhfmgaaGreatDoor
/- joistref06.runeOf: a rune of 4 bytes. -/
namespace Go.Proofs.YtpbljjbhfhfmgaaGreatDoor
set_option maxRecDepth 100000
open Go.RowKit
set_option linter.unusedVariables false
set_option linter.unusedSimpArgs false
set_option maxRecDepth 100000

/-- What is reckoned of the bytes 1 to i - 1. -/
def valN (a0 : Int) (n : Nat → Nat) : Nat → Int
  | 0 => a0
  | 1 => a0
  | i + 2 => valN a0 n (i + 1) * 64 + n (i + 1) - 128
/-- So far. -/
def SoFar (a0 : Int) (n : Nat → Nat) (i : Nat) (a : Int) : Prop := (∀ j, 1 ≤ j → j < i → 128 ≤ n j ∧ n j < 192) ∧ a = valN a0 n i ∧ (i ≤ 1 → a ≤ 4) ∧ (i ≤ 2 → a ≤ 319) ∧ (i ≤ 3 → a ≤ 20479)
theorem SoFar.next {a0 : Int} {n : Nat → Nat} {i : Nat} {a : Int} (h : SoFar a0 n i a) (h1 : 1 ≤ i) (ha : 0 ≤ a) (hc : 128 ≤ n i ∧ n i < 192) : SoFar a0 n (i + 1) (a * 64 + n i - 128) := by
  obtain ⟨p, q, r1, r2, r3⟩ := h
  obtain ⟨k, rfl⟩ : ∃ k, i = k + 1 := ⟨i - 1, by omega⟩
  refine ⟨fun j j1 j2 => ?_, ?_, fun e => by omega, fun e => ?_, fun e => ?_⟩
  · by_cases e : j = k + 1
    · rw [e]; exact hc
    · exact p j j1 (by omega)
  · rw [q]; rfl
  · have := r1 (by omega); omega
  · have := r2 (by omega); omega

theorem runeOf_four' (s : ByteArray) (w : World) (h0 : 0 < s.size) (hs : s.size ≤ 9223372036854775807) (h4 : 4 ≤ (s.size : Int)) (n0 : Nat) (e0 : (s[0]'h0).toNat = n0) (hw0 : wrap64 (n0 : Int) = n0) (hc : 240 ≤ (n0 : Int) ∧ (n0 : Int) < 245)
    (n : Nat → Nat) (he : Hid (∀ i (h : i < s.size), (s[i]'h).toNat = n i)) (hwn : Hid (∀ i, wrap64 (n i : Int) = n i)) (hbn : Hid (∀ i, n i < 256))
    (C : Prop) [Decidable C] (V : Nat) (hL : Hid (runeL s.data.toList = if C then (V, 4) else (0, 0))) (fC : Hid (C → (∀ j, 1 ≤ j → j < 4 → 128 ≤ n j ∧ n j < 192) ∧ 65536 ≤ V ∧ V ≤ 1114111))
    (g : Hid ((∀ j, 1 ≤ j → j < 4 → 128 ≤ n j ∧ n j < 192) → 65536 ≤ V ∧ V ≤ 1114111 → C))
    (v : Hid ((∀ j, 1 ≤ j → j < 4 → 128 ≤ n j ∧ n j < 192) → (V : Int) = valN ((n0 : Int) - 240) n 4)) :
    Calls Tryz.prog 106 #[.string s] w fun e w' => e = .returned (.tuple #[.int .i64 (runeL s.data.toList).1, .int .i64 (runeL s.data.toList).2]) ∧ w = w' := by
  go_enter Tryz.func106, Tryz.ntmps106
  go_wp2
  all_goals first | (exfalso; omega) | skip
  go_loop [5, 8] (fun va vi => ∃ (i : Nat) (a : Int), 1 ≤ i ∧ i ≤ 4 ∧ vi = .int .i64 i ∧ va = .int .i64 a ∧ 0 ≤ a ∧ Hid (SoFar ((n0 : Int) - 240) n i a)) (fun _ vi => 4 - (intOf vi).toNat)
  case atStart =>
    refine ⟨1, (n0 : Int) - 240, Nat.le_refl _, by omega, rfl, rfl, by omega, ⟨fun j j1 j2 => absurd j1 (by omega), rfl, fun _ => by omega, fun _ => by omega, fun _ => by omega⟩⟩
  case round =>
    obtain ⟨i, a, i1, i4, rfl, rfl, a0, hq⟩ := hrel
    by_cases hi : i < 4
    · have hi' : (i : Int) < 4 := by omega
      have his : i < s.size := by omega
      have ei := he i his
      have wi := hwn i
      have bi := hbn i
      have ha : a ≤ 20479 := hq.2.2.2.2 (by omega)
      have hstep := hq.next i1 a0
      have hno : Hid (¬ (128 ≤ n i ∧ n i < 192) → ¬ C) := fun h c => h ((fC c).1 i i1 hi)
      obtain ⟨z, hz⟩ : ∃ z, n i = z := ⟨_, rfl⟩
      rw [hz] at ei wi bi hno hstep
      have hstep' : Hid (128 ≤ z ∧ z < 192 → SoFar ((n0 : Int) - 240) n (i + 1) (a * 64 + z - 128)) := hstep
      clear hz hstep
      go_wp2
      · go_ret2
        exact ⟨ret_neg hL (hno (by omega)), rfl⟩
      rotate_left
      · go_ret2
        exact ⟨ret_neg hL (hno (by omega)), rfl⟩
      refine ⟨⟨i + 1, a * 64 + (z : Int) - 128, by omega, by omega, by simp, rfl, by omega, hstep' (by omega)⟩, ?_⟩
      simp only [intOf]
      omega
    · obtain rfl : i = 4 := by omega
      have hV : Hid ((V : Int) = a) := (v hq.1).trans hq.2.1.symm
      have hall : Hid (∀ j, 1 ≤ j → j < 4 → 128 ≤ n j ∧ n j < 192) := hq.1
      have hno : Hid (¬ (65536 ≤ a ∧ a ≤ 1114111) → ¬ C) := fun h c => by
        have h1 := (fC c).2
        have h2 : (V : Int) = a := hV
        omega
      have hyes : Hid (65536 ≤ a ∧ a ≤ 1114111 → C) := fun h => g hall (by
        have h2 : (V : Int) = a := hV
        omega)
      clear v g fC he hwn hbn hq
      go_wp2
      · go_ret2
        exact ⟨ret_pos hL (hyes (by omega)) hV rfl, rfl⟩
      · go_ret2
        exact ⟨ret_neg hL (hno (by omega)), rfl⟩
      · go_ret2
        exact ⟨ret_neg hL (hno (by omega)), rfl⟩

theorem runeOf_four (s : ByteArray) (w : World) (h0 : 0 < s.size) (hs : s.size ≤ 9223372036854775807) (n : Nat → Nat) (he : ∀ i (h : i < s.size), (s[i]'h).toNat = n i) (hbn : ∀ i, n i < 256) (h4 : 4 ≤ s.size) (hc : 240 ≤ (n 0 : Int) ∧ (n 0 : Int) < 245)
    (hL : runeL s.data.toList = runeB s.size (n 0) (n 1) (n 2) (n 3)) :
    Calls Tryz.prog 106 #[.string s] w fun e w' => e = .returned (.tuple #[.int .i64 (runeL s.data.toList).1, .int .i64 (runeL s.data.toList).2]) ∧ w = w' := by
  rw [rB4 _ _ _ _ _ (by omega)] at hL
  refine runeOf_four' s w h0 hs (by omega) (n 0) (he 0 h0) (wrap_byte _ (hbn 0)) hc n he (fun i => wrap_byte _ (hbn i)) hbn _ _ hL (fun c => ⟨fun j j1 j2 => ?_, c.2.2.2.2⟩) (fun p q => ⟨by omega, p 1 (by omega) (by omega), p 2 (by omega) (by omega), p 3 (by omega) (by omega), q⟩) (fun p => ?_)
  · obtain rfl | rfl | rfl : j = 1 ∨ j = 2 ∨ j = 3 := by omega
    · exact c.2.1
    · exact c.2.2.1
    · exact c.2.2.2.1
  · have p1 := p 1 (by omega) (by omega)
    have p2 := p 2 (by omega) (by omega)
    have p3 := p 3 (by omega) (by omega)
    show _ = (((((n 0 : Nat) : Int) - 240) * 64 + n 1 - 128) * 64 + n 2 - 128) * 64 + n 3 - 128
    clear hL he hbn p
    generalize n 0 = n0 at *
    generalize n 1 = n1 at *
    generalize n 2 = n2 at *
    generalize n 3 = n3 at *
    obtain ⟨m0, rfl⟩ : ∃ m, n0 = m + 240 := ⟨n0 - 240, by omega⟩
    obtain ⟨m1, rfl⟩ : ∃ m, n1 = m + 128 := ⟨n1 - 128, by omega⟩
    obtain ⟨m2, rfl⟩ : ∃ m, n2 = m + 128 := ⟨n2 - 128, by omega⟩
    obtain ⟨m3, rfl⟩ : ∃ m, n3 = m + 128 := ⟨n3 - 128, by omega⟩
    simp only [Nat.add_sub_cancel]
    omega
end Go.Proofs.YtpbljjbhfhfmgaaGreatDoor
/- joistref06.runeOf by its contract. -/
namespace Go.Proofs.YtpbljjbhfhfmgaaGreatDoor
set_option maxRecDepth 100000
open Go.RowKit
set_option linter.unusedVariables false
/-- joistref06.runeOf. -/
theorem runeOf_any (s : ByteArray) (w : World) (h0 : 0 < s.size) (hs : s.size ≤ 9223372036854775807) :
    Calls Tryz.prog 106 #[.string s] w fun e w' => e = .returned (.tuple #[.int .i64 (runeL s.data.toList).1, .int .i64 (runeL s.data.toList).2]) ∧ w = w' := by
  obtain ⟨n, he, hbn, hL⟩ : ∃ n : Nat → Nat, (∀ i (h : i < s.size), (s[i]'h).toNat = n i) ∧ (∀ i, n i < 256) ∧ runeL s.data.toList = runeB s.size (n 0) (n 1) (n 2) (n 3) :=
    ⟨fun i => (s.data.toList.getD i 0).toNat, fun i h => get_at' s i h, fun i => (s.data.toList.getD i 0).toNat_lt, rfl⟩
  have e0 := he 0 h0
  have e1 := he 1
  have e2 := he 2
  have b1 := hbn 1
  have b2 := hbn 2
  have w0 := wrap_byte (n 0) (hbn 0)
  have w1 := wrap_byte (n 1) (hbn 1)
  have w2 := wrap_byte (n 2) (hbn 2)
  by_cases c1 : (n 0 : Int) < 128
  · exact runeOf_one s w h0 hs (n 0) (n 1) (n 2) (n 3) e0 (hL.trans (rB1 _ _ _ _ _ (by omega))) w0 c1
  by_cases c0 : (128 ≤ (n 0 : Int) ∧ (n 0 : Int) < 194) ∨ 245 ≤ (n 0 : Int)
  · exact runeOf_none s w h0 hs (n 0) (n 1) (n 2) (n 3) e0 (hL.trans (rB0 _ _ _ _ _ (by omega))) w0 c0
  by_cases c2 : (194 ≤ (n 0 : Int) ∧ (n 0 : Int) < 224 ∧ (s.size : Int) < 2) ∨ (224 ≤ (n 0 : Int) ∧ (n 0 : Int) < 240 ∧ (s.size : Int) < 3) ∨ (240 ≤ (n 0 : Int) ∧ (n 0 : Int) < 245 ∧ (s.size : Int) < 4)
  · refine runeOf_short s w h0 hs (n 0) (n 1) (n 2) (n 3) e0 (hL.trans ?_) w0 c2
    rcases c2 with c2 | c2 | c2
    · rw [rB2 _ _ _ _ _ (by omega), if_neg (fun c => by have h := c.1; omega)]
    · rw [rB3 _ _ _ _ _ (by omega), if_neg (fun c => by have h := c.1; omega)]
    · rw [rB4 _ _ _ _ _ (by omega), if_neg (fun c => by have h := c.1; omega)]
  by_cases c3 : (n 0 : Int) < 224
  · exact runeOf_two s w h0 hs (n 0) (n 1) (n 2) (n 3) e0 (hL.trans (rB2 _ _ _ _ _ (by omega))) w0 (by omega) (by omega) (e1 (by omega)) w1 b1
  by_cases c4 : (n 0 : Int) < 240
  · exact runeOf_three s w h0 hs (n 0) (n 1) (n 2) (n 3) e0 (hL.trans (rB3 _ _ _ _ _ (by omega))) w0 (by omega) (by omega) (e1 (by omega)) w1 b1 (by omega) (e2 (by omega)) w2 b2
  · exact runeOf_four s w h0 hs n he hbn (by omega) (by omega) hL
end Go.Proofs.YtpbljjbhfhfmgaaGreatDoor
