/- joistref06.runeOf: a rune of 3 bytes. -/
import Derived.Test.YtmefepjjlhphnaaDoorRefRuneA
namespace Go.Proofs.YtmefepjjlhphnaaDoor
set_option maxRecDepth 100000
open Go.RowKit
set_option linter.unusedVariables false
set_option linter.unusedSimpArgs false
set_option maxRecDepth 100000
set_option maxHeartbeats 4000000
theorem runeOf_three (s : ByteArray) (w : World) (h0 : 0 < s.size) (hs : s.size ≤ 9223372036854775807) (n0 n1 n2 n3 : Nat) (e0 : (s[0]'h0).toNat = n0) (hL : Hid (runeL s.data.toList = if 3 ≤ s.size ∧ (128 ≤ n1 ∧ n1 < 192) ∧ (128 ≤ n2 ∧ n2 < 192) ∧ 2048 ≤ ((n0 - 224) * 64 + (n1 - 128)) * 64 + (n2 - 128) ∧ ¬ (55296 ≤ ((n0 - 224) * 64 + (n1 - 128)) * 64 + (n2 - 128) ∧ ((n0 - 224) * 64 + (n1 - 128)) * 64 + (n2 - 128) ≤ 57343) then (((n0 - 224) * 64 + (n1 - 128)) * 64 + (n2 - 128), 3) else (0, 0)))
    (hw0 : wrap64 (n0 : Int) = n0) (hc : 224 ≤ (n0 : Int) ∧ (n0 : Int) < 240) (h1 : 1 < s.size) (e1 : (s[1]'h1).toNat = n1) (hw1 : wrap64 (n1 : Int) = n1) (hb1 : n1 < 256) (h2 : 2 < s.size) (e2 : (s[2]'h2).toNat = n2) (hw2 : wrap64 (n2 : Int) = n2) (hb2 : n2 < 256) :
    Calls Tryd.prog 55 #[.string s] w fun e w' => e = .returned (.tuple #[.int .i64 (runeL s.data.toList).1, .int .i64 (runeL s.data.toList).2]) ∧ w = w' := by
  go_enter Tryd.func55, Tryd.ntmps55
  go_wp2
  all_goals first | (exfalso; omega) | skip
  go_rounds 4
  all_goals first | (exfalso; omega) | (go_ret2; exact ⟨ret_pos hL (by omega) (by omega) rfl, rfl⟩) | (go_ret2; exact ⟨ret_neg hL (by omega), rfl⟩)
end Go.Proofs.YtmefepjjlhphnaaDoor
