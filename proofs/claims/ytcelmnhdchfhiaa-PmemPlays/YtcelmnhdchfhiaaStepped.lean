/- What a step does to a device that is armed: plain facts. -/
import Derived.Test.YtcelmnhdchfhiaaDo
import Derived.Laws.BitsLemmas
namespace Go.Proofs.Ytcelmnhdchfhiaa
open Go.RowKit
set_option linter.unusedVariables false

theorem i64_and7 (n : Int) : bits .and .i64 n 7 = n % 8 := by
  have h7 : (BitVec.ofInt 64 7).toNat = 2 ^ 3 - 1 := by decide
  have key : (BitVec.ofInt 64 n &&& BitVec.ofInt 64 7).toNat = (n % ((2 ^ 64 : Nat) : Int)).toNat % 2 ^ 3 := by
    rw [BitVec.toNat_and, BitVec.toNat_ofInt, h7, Nat.and_two_pow_sub_one_eq_mod]
  show IntKind.i64.wrap ((BitVec.ofInt 64 n &&& BitVec.ofInt 64 7).toNat : Nat) = n % 8
  rw [key, IntKind.wrap_i64]
  omega
/-- So many steps are left; 0: the power has failed. -/
def Left (L : Int) (S : St) : Prop := (0 < L ∧ S.armed = L ∧ S.down = false) ∨ (L = 0 ∧ S.down = true)
/-- What a call does that is asked for n bytes from a on; f: what it does if it may. -/
def Does (f : St → St) (S : St) (a n : Int) : St := if stepE S a n = 0 then f (stepS S a n) else stepS S a n
theorem left_step {f : St → St} (hf : ∀ T, (f T).armed = T.armed ∧ (f T).down = T.down) {L : Int} {S : St} (h : Left L S) (a n : Int) :
    (0 < L ∧ stepE S a n = 1 ∧ Does f S a n = S) ∨
    (L = 1 ∧ stepE S a n = 5 ∧ (Does f S a n).down = true ∧ (Does f S a n).seen = S.seen ∧ dirtyL (Does f S a n) = dirtyL S) ∨
    (1 < L ∧ stepE S a n = 0 ∧ (Does f S a n).armed = L - 1 ∧ (Does f S a n).down = false) ∨
    (L = 0 ∧ stepE S a n = 5 ∧ Does f S a n = S) := by
  rcases h with ⟨h0, h1, h2⟩ | ⟨h0, h1⟩
  · have hc : checkE S a n = 1 ∨ checkE S a n = 0 := by
      unfold checkE
      rw [if_neg (by rw [h2]; simp)]
      by_cases h : a < 0 ∨ n < 0 ∨ n > S.seen.length - a
      · rw [if_pos h]; exact Or.inl rfl
      · rw [if_neg h]; exact Or.inr rfl
    rcases hc with hc | hc
    · left
      have e1 : stepE S a n = 1 := by unfold stepE; rw [if_pos (by omega), hc]
      refine ⟨h0, e1, ?_⟩
      unfold Does
      rw [if_neg (by omega)]
      unfold stepS
      rw [if_pos (by omega)]
    · have e2 : stepS S a n = { S with armed := S.armed - 1, down := decide (S.armed = 1) } := by unfold stepS; rw [if_neg (by omega)]
      by_cases hL : L = 1
      · right; left
        have e1 : stepE S a n = 5 := by unfold stepE; rw [if_neg (by omega), if_pos (by omega)]
        have e3 : Does f S a n = stepS S a n := by unfold Does; rw [if_neg (by omega)]
        refine ⟨hL, e1, ?_, ?_, ?_⟩
        · rw [e3, e2]; simp; omega
        · rw [e3, e2]
        · rw [e3, e2]; rfl
      · right; right; left
        have e1 : stepE S a n = 0 := by unfold stepE; rw [if_neg (by omega), if_neg (by omega)]
        have e3 : Does f S a n = f (stepS S a n) := by unfold Does; rw [if_pos e1]
        refine ⟨by omega, e1, ?_, ?_⟩
        · rw [e3, (hf _).1, e2, h1]
        · rw [e3, (hf _).2, e2]; simp; omega
  · right; right; right
    have hc : checkE S a n = 5 := by unfold checkE; rw [if_pos h1]
    have e1 : stepE S a n = 5 := by unfold stepE; rw [if_pos (by omega), hc]
    refine ⟨h0, e1, ?_⟩
    unfold Does
    rw [if_neg (by omega)]
    unfold stepS
    rw [if_pos (by omega)]
theorem storeS_keeps (i : Nat) (ys : List Int) (T : St) : (storeS T i ys).armed = T.armed ∧ (storeS T i ys).down = T.down := by
  obtain ⟨_, _, h1, h2⟩ := soilTo_seen T (lineA i ys.length) (lineB i ys.length - lineA i ys.length)
  exact ⟨h1, h2⟩
end Go.Proofs.Ytcelmnhdchfhiaa
