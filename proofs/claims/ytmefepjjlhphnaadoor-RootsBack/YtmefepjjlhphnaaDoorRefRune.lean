/- joistref06.runeOf by its contract. -/
import Derived.Test.YtmefepjjlhphnaaDoorRefRune2
import Derived.Test.YtmefepjjlhphnaaDoorRefRune3
import Derived.Test.YtmefepjjlhphnaaDoorRefRune4
namespace Go.Proofs.YtmefepjjlhphnaaDoor
set_option maxRecDepth 100000
open Go.RowKit
set_option linter.unusedVariables false
/-- joistref06.runeOf. -/
theorem runeOf_any (s : ByteArray) (w : World) (h0 : 0 < s.size) (hs : s.size ≤ 9223372036854775807) :
    Calls Tryd.prog 55 #[.string s] w fun e w' => e = .returned (.tuple #[.int .i64 (runeL s.data.toList).1, .int .i64 (runeL s.data.toList).2]) ∧ w = w' := by
  obtain ⟨n, he, hbn, hL⟩ : ∃ n : Nat → Nat, (∀ i (h : i < s.size), (s[i]'h).toNat = n i) ∧ (∀ i, n i < 256) ∧ runeL s.data.toList = runeB s.size (n 0) (n 1) (n 2) (n 3) :=
    ⟨fun i => (s.data.toList.getD i 0).toNat, fun i h => get_at' s i h, fun i => (s.data.toList.getD i 0).toNat_lt, rfl⟩
  have e0 := he 0 h0
  have e1 := he 1
  have e2 := he 2
  have b1 := hbn 1
  have b2 := hbn 2
  have w0 := wrap_byte (n 0) (hbn 0)
  have w1 := wrap_byte (n 1) (hbn 1)
  have w2 := wrap_byte (n 2) (hbn 2)
  by_cases c1 : (n 0 : Int) < 128
  · exact runeOf_one s w h0 hs (n 0) (n 1) (n 2) (n 3) e0 (hL.trans (rB1 _ _ _ _ _ (by omega))) w0 c1
  by_cases c0 : (128 ≤ (n 0 : Int) ∧ (n 0 : Int) < 194) ∨ 245 ≤ (n 0 : Int)
  · exact runeOf_none s w h0 hs (n 0) (n 1) (n 2) (n 3) e0 (hL.trans (rB0 _ _ _ _ _ (by omega))) w0 c0
  by_cases c2 : (194 ≤ (n 0 : Int) ∧ (n 0 : Int) < 224 ∧ (s.size : Int) < 2) ∨ (224 ≤ (n 0 : Int) ∧ (n 0 : Int) < 240 ∧ (s.size : Int) < 3) ∨ (240 ≤ (n 0 : Int) ∧ (n 0 : Int) < 245 ∧ (s.size : Int) < 4)
  · refine runeOf_short s w h0 hs (n 0) (n 1) (n 2) (n 3) e0 (hL.trans ?_) w0 c2
    rcases c2 with c2 | c2 | c2
    · rw [rB2 _ _ _ _ _ (by omega), if_neg (fun c => by have h := c.1; omega)]
    · rw [rB3 _ _ _ _ _ (by omega), if_neg (fun c => by have h := c.1; omega)]
    · rw [rB4 _ _ _ _ _ (by omega), if_neg (fun c => by have h := c.1; omega)]
  by_cases c3 : (n 0 : Int) < 224
  · exact runeOf_two s w h0 hs (n 0) (n 1) (n 2) (n 3) e0 (hL.trans (rB2 _ _ _ _ _ (by omega))) w0 (by omega) (by omega) (e1 (by omega)) w1 b1
  by_cases c4 : (n 0 : Int) < 240
  · exact runeOf_three s w h0 hs (n 0) (n 1) (n 2) (n 3) e0 (hL.trans (rB3 _ _ _ _ _ (by omega))) w0 (by omega) (by omega) (e1 (by omega)) w1 b1 (by omega) (e2 (by omega)) w2 b2
  · exact runeOf_four s w h0 hs n he hbn (by omega) (by omega) hL
end Go.Proofs.YtmefepjjlhphnaaDoor
