/- joistref06.runeOf: the first ways. -/
import Derived.Test.YtmefepjjlhphnaaDoorNamesP
import Derived.Handy
namespace Go.Proofs.YtmefepjjlhphnaaDoor
set_option maxRecDepth 100000
open Go.RowKit
set_option linter.unusedVariables false
set_option linter.unusedSimpArgs false

theorem wrap_byte (n : Nat) (h : n < 256) : wrap64 (n : Int) = n := by unfold wrap64; omega
theorem get_at' (s : ByteArray) (i : Nat) (h : i < s.size) : (s[i]'h).toNat = (s.data.toList.getD i 0).toNat := by
  have : s.data.toList.getD i 0 = s[i]'h := by
    rw [List.getD_eq_getElem?_getD, List.getElem?_eq_getElem (by simpa using h)]
    simp
    rfl
  rw [this]
theorem rB1 (m n0 n1 n2 n3 : Nat) (h : n0 < 128) : runeB m n0 n1 n2 n3 = (n0, 1) := by unfold runeB; rw [if_pos h]
theorem rB0 (m n0 n1 n2 n3 : Nat) (h : (128 ≤ n0 ∧ n0 < 194) ∨ 245 ≤ n0) : runeB m n0 n1 n2 n3 = (0, 0) := by unfold runeB; rw [if_neg (by omega), if_neg (by omega), if_neg (by omega), if_neg (by omega)]
theorem rB2 (m n0 n1 n2 n3 : Nat) (h : 194 ≤ n0 ∧ n0 < 224) : runeB m n0 n1 n2 n3 = if 2 ≤ m ∧ 128 ≤ n1 ∧ n1 < 192 then ((n0 - 192) * 64 + (n1 - 128), 2) else (0, 0) := by
  unfold runeB; rw [if_neg (by omega), if_pos h]
theorem rB3 (m n0 n1 n2 n3 : Nat) (h : 224 ≤ n0 ∧ n0 < 240) : runeB m n0 n1 n2 n3 = if 3 ≤ m ∧ (128 ≤ n1 ∧ n1 < 192) ∧ (128 ≤ n2 ∧ n2 < 192) ∧ 2048 ≤ ((n0 - 224) * 64 + (n1 - 128)) * 64 + (n2 - 128) ∧ ¬ (55296 ≤ ((n0 - 224) * 64 + (n1 - 128)) * 64 + (n2 - 128) ∧ ((n0 - 224) * 64 + (n1 - 128)) * 64 + (n2 - 128) ≤ 57343) then (((n0 - 224) * 64 + (n1 - 128)) * 64 + (n2 - 128), 3) else (0, 0) := by
  unfold runeB; rw [if_neg (by omega), if_neg (by omega), if_pos h]
theorem rB4 (m n0 n1 n2 n3 : Nat) (h : 240 ≤ n0 ∧ n0 < 245) : runeB m n0 n1 n2 n3 = if 4 ≤ m ∧ (128 ≤ n1 ∧ n1 < 192) ∧ (128 ≤ n2 ∧ n2 < 192) ∧ (128 ≤ n3 ∧ n3 < 192) ∧ 65536 ≤ (((n0 - 240) * 64 + (n1 - 128)) * 64 + (n2 - 128)) * 64 + (n3 - 128) ∧ (((n0 - 240) * 64 + (n1 - 128)) * 64 + (n2 - 128)) * 64 + (n3 - 128) ≤ 1114111 then ((((n0 - 240) * 64 + (n1 - 128)) * 64 + (n2 - 128)) * 64 + (n3 - 128), 4) else (0, 0) := by
  unfold runeB; rw [if_neg (by omega), if_neg (by omega), if_neg (by omega), if_pos h]
theorem ret_rune {l : List UInt8} {A B : Int} {V K : Nat} (hL : Hid (runeL l = (V, K))) (h : (V : Int) = A) (h2 : (K : Int) = B) :
    Ending.returned (.tuple #[.int .i64 A, .int .i64 B]) = .returned (.tuple #[.int .i64 (runeL l).1, .int .i64 (runeL l).2]) := by
  rw [show runeL l = (V, K) from hL, ← h, ← h2]
theorem ret_pos {l : List UInt8} {C : Prop} [Decidable C] {A B : Int} {V K : Nat} (hL : Hid (runeL l = if C then (V, K) else (0, 0))) (hc : C) (h : (V : Int) = A) (h2 : (K : Int) = B) :
    Ending.returned (.tuple #[.int .i64 A, .int .i64 B]) = .returned (.tuple #[.int .i64 (runeL l).1, .int .i64 (runeL l).2]) :=
  ret_rune (show runeL l = (V, K) from (show runeL l = _ from hL).trans (if_pos hc)) h h2
theorem ret_neg {l : List UInt8} {C : Prop} [Decidable C] {V K : Nat} (hL : Hid (runeL l = if C then (V, K) else (0, 0))) (hc : ¬ C) :
    Ending.returned (.tuple #[.int .i64 0, .int .i64 0]) = .returned (.tuple #[.int .i64 (runeL l).1, .int .i64 (runeL l).2]) :=
  ret_rune (show runeL l = (0, 0) from (show runeL l = _ from hL).trans (if_neg hc)) rfl rfl

set_option maxRecDepth 100000
theorem runeOf_one (s : ByteArray) (w : World) (h0 : 0 < s.size) (hs : s.size ≤ 9223372036854775807) (n0 n1 n2 n3 : Nat) (e0 : (s[0]'h0).toNat = n0) (hL : Hid (runeL s.data.toList = (n0, 1)))
    (hw0 : wrap64 (n0 : Int) = n0) (hc : (n0 : Int) < 128) :
    Calls Tryd.prog 55 #[.string s] w fun e w' => e = .returned (.tuple #[.int .i64 (runeL s.data.toList).1, .int .i64 (runeL s.data.toList).2]) ∧ w = w' := by
  go_enter Tryd.func55, Tryd.ntmps55
  go_wp2
  go_ret2
  exact ⟨ret_rune hL rfl rfl, rfl⟩
theorem runeOf_none (s : ByteArray) (w : World) (h0 : 0 < s.size) (hs : s.size ≤ 9223372036854775807) (n0 n1 n2 n3 : Nat) (e0 : (s[0]'h0).toNat = n0) (hL : Hid (runeL s.data.toList = (0, 0)))
    (hw0 : wrap64 (n0 : Int) = n0) (hc : (128 ≤ (n0 : Int) ∧ (n0 : Int) < 194) ∨ 245 ≤ (n0 : Int)) :
    Calls Tryd.prog 55 #[.string s] w fun e w' => e = .returned (.tuple #[.int .i64 (runeL s.data.toList).1, .int .i64 (runeL s.data.toList).2]) ∧ w = w' := by
  go_enter Tryd.func55, Tryd.ntmps55
  go_wp2
  all_goals first | (exfalso; omega) | (go_ret2; exact ⟨ret_rune hL rfl rfl, rfl⟩)
theorem runeOf_short (s : ByteArray) (w : World) (h0 : 0 < s.size) (hs : s.size ≤ 9223372036854775807) (n0 n1 n2 n3 : Nat) (e0 : (s[0]'h0).toNat = n0) (hL : Hid (runeL s.data.toList = (0, 0)))
    (hw0 : wrap64 (n0 : Int) = n0) (hc : (194 ≤ (n0 : Int) ∧ (n0 : Int) < 224 ∧ (s.size : Int) < 2) ∨ (224 ≤ (n0 : Int) ∧ (n0 : Int) < 240 ∧ (s.size : Int) < 3) ∨ (240 ≤ (n0 : Int) ∧ (n0 : Int) < 245 ∧ (s.size : Int) < 4)) :
    Calls Tryd.prog 55 #[.string s] w fun e w' => e = .returned (.tuple #[.int .i64 (runeL s.data.toList).1, .int .i64 (runeL s.data.toList).2]) ∧ w = w' := by
  go_enter Tryd.func55, Tryd.ntmps55
  go_wp2
  all_goals first | (exfalso; omega) | (go_ret2; exact ⟨ret_rune hL rfl rfl, rfl⟩)
end Go.Proofs.YtmefepjjlhphnaaDoor
