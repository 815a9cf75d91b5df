/- How many steps a commit takes: plain facts. -/
import Derived.Test.YtgiippbjieecmaaMgH
namespace Go.Proofs.Ytgiippbjieecmaa
set_option maxRecDepth 100000
open Go.RowKit
set_option linter.unusedVariables false

/-- Does a step lie within L bytes? -/
def inR (L : Nat) : Stp → Prop
  | .st a ys => a + ys.length ≤ L
  | .fl a n => a + n ≤ L
  | .fe => True
theorem checkE_in {S : St} {a n : Nat} (hd : S.down = false) (h : a + n ≤ S.seen.length) : checkE S a n = 0 := by
  unfold checkE
  rw [if_neg (by rw [hd]; simp), if_neg (by omega)]
theorem does_step {f : St → St} {S : St} {a n : Nat} (hf : ∀ T : St, (f T).armed = T.armed ∧ (f T).down = T.down) (hl : ∀ T : St, T.seen.length = S.seen.length → (f T).seen.length = S.seen.length ∧ (f T).n = T.n) (hd : S.down = false) (ha : 0 ≤ S.armed) (h : a + n ≤ S.seen.length) :
    (S.armed = 1 → stepE S a n = 5 ∧ (Does f S a n).down = true) ∧ (S.armed ≠ 1 → stepE S a n = 0 ∧ (Does f S a n).down = false ∧ (Does f S a n).armed = (if S.armed = 0 then 0 else S.armed - 1) ∧ (Does f S a n).seen.length = S.seen.length) := by
  have hc := checkE_in hd h
  constructor
  · intro h1
    have e1 : stepE S a n = 5 := by unfold stepE; rw [if_neg (by omega), if_pos h1]
    refine ⟨e1, ?_⟩
    unfold Does
    rw [if_neg (by omega)]
    unfold stepS
    rw [if_neg (by omega)]
    simp [h1]
  · intro h1
    have e1 : stepE S a n = 0 := by unfold stepE; rw [if_neg (by omega), if_neg h1]
    refine ⟨e1, ?_⟩
    unfold Does
    rw [if_pos e1]
    by_cases h0 : S.armed = 0
    · have e2 : stepS S a n = S := by unfold stepS; rw [if_pos (Or.inr h0)]
      rw [e2, (hf S).1, (hf S).2]
      exact ⟨hd, by rw [h0]; rfl, (hl S rfl).1⟩
    · have e2 : stepS S a n = { S with armed := S.armed - 1, down := decide (S.armed = 1) } := by unfold stepS; rw [if_neg (by omega)]
      rw [e2, (hf _).1, (hf _).2]
      exact ⟨by simpa using h1, by rw [if_neg h0], (hl { S with armed := S.armed - 1, down := decide (S.armed = 1) } rfl).1⟩
theorem storeS_two (i : Nat) (ys : List Int) (T : St) : (storeS T i ys).armed = T.armed ∧ (storeS T i ys).down = T.down := by
  unfold storeS
  exact ⟨(soilTo_seen _ _ _).2.2.1, (soilTo_seen _ _ _).2.2.2⟩
theorem stp_step {S : St} {x : Stp} (hx : inR S.seen.length x) (hd : S.down = false) (ha : 0 ≤ S.armed) :
    (S.armed = 1 → stpE S x = 5 ∧ (stpS S x).down = true) ∧ (S.armed ≠ 1 → stpE S x = 0 ∧ (stpS S x).down = false ∧ (stpS S x).armed = (if S.armed = 0 then 0 else S.armed - 1) ∧ (stpS S x).seen.length = S.seen.length) := by
  cases x with
  | st a ys => exact does_step (f := fun T => storeS T a ys) (fun T => storeS_two a ys T) (fun T hT => ⟨by show (splice T.seen a ys).length = _; rw [splice_length (by rw [hT]; exact hx), hT], (soilTo_seen _ _ _).2.1⟩) hd ha hx
  | fl a n => exact does_step (f := fun T => flushS T (lineA a n) (lineB a n)) (fun T => ⟨rfl, rfl⟩) (fun T hT => ⟨hT, rfl⟩) hd ha hx
  | fe => exact does_step (f := fenceS) (a := 0) (n := 0) (fun T => ⟨rfl, rfl⟩) (fun T hT => ⟨hT, rfl⟩) hd ha (by omega)
/-- A row of steps within the device: the power fails at the armed one, if there are as many. -/
theorem run_counts {xs : List Stp} {S : St} (hx : ∀ x ∈ xs, inR S.seen.length x) (hd : S.down = false) (ha : 0 ≤ S.armed) :
    (1 ≤ S.armed ∧ S.armed ≤ xs.length → runE S xs = 5 ∧ (runS S xs).down = true) ∧ (¬ (1 ≤ S.armed ∧ S.armed ≤ xs.length) → runE S xs = 0 ∧ (runS S xs).down = false) := by
  induction xs generalizing S with
  | nil => exact ⟨fun h => by simp at h; omega, fun _ => ⟨rfl, hd⟩⟩
  | cons x xs ih =>
    obtain ⟨h1, h2⟩ := stp_step (hx x (by simp)) hd ha
    by_cases e : S.armed = 1
    · obtain ⟨a1, a2⟩ := h1 e
      have hb := run_bad (S := S) (x := x) (by omega) xs
      rw [hb.1, hb.2]
      exact ⟨fun _ => ⟨a1, a2⟩, fun h => absurd ⟨by omega, by simp; omega⟩ h⟩
    · obtain ⟨a1, a2, a3, a4⟩ := h2 e
      have hb := run_ok a1 xs
      rw [hb.1, hb.2]
      obtain ⟨i1, i2⟩ := ih (S := stpS S x) (fun y hy => by rw [a4]; exact hx y (by simp [hy])) a2 (by rw [a3]; split <;> omega)
      rw [a3] at i1 i2
      constructor
      · intro h
        rw [List.length_cons] at h
        refine i1 ?_
        rw [if_neg (by omega)]
        omega
      · intro h
        rw [List.length_cons] at h
        refine i2 ?_
        split <;> omega
theorem comS_length (g : Lg) (l : List Chg) : (comS g l).length = 10 + 2 * l.length := by
  unfold comS finS keepS
  simp [bringsL_length]
  omega
theorem comS_in {g : Lg} {l : List Chg} {n : Nat} (hg : RightG g n) (hl : rightL n l = true) (hr : l.length ≤ g.room) : ∀ x ∈ comS g l, inR (64 * n) x := by
  have g1 := hg.m0
  have g2 := hg.m1
  have g3 := hg.f0
  have g4 := hg.f1
  have hrl : (recsL l).length = 128 * l.length := recsL_length (fun c hc => (rightL_mem hl hc).2.2)
  intro x hx
  unfold comS finS keepS at hx
  simp only [List.mem_append, List.mem_cons, List.not_mem_nil, or_false] at hx
  have hm0 : (markL ([] : List Int)).length = 64 := markL_length _
  have hm1 : (markL (recsL l)).length = 64 := markL_length _
  have kfirst : g.first.toNat * 64 + (recsL l).length ≤ 64 * n := by omega
  have kmark : g.mark.toNat * 64 + 64 ≤ 64 * n := by omega
  rcases hx with ((rfl | rfl | rfl) | (rfl | rfl | rfl)) | ((hx | rfl) | (rfl | rfl | rfl))
  · exact kfirst
  · exact kfirst
  · trivial
  · show _ + (markL (recsL l)).length ≤ _; omega
  · show _ + (markL (recsL l)).length ≤ _; omega
  · trivial
  · unfold bringsL at hx
    rw [List.mem_flatMap] at hx
    obtain ⟨c, hc, hx⟩ := hx
    obtain ⟨q1, q2, q3⟩ := rightL_mem hl hc
    simp only [bringS, List.mem_cons, List.not_mem_nil, or_false] at hx
    rcases hx with rfl | rfl
    · show _ + c.2.length ≤ _; omega
    · show _ + c.2.length ≤ _; omega
  · trivial
  · show _ + (markL ([] : List Int)).length ≤ _; omega
  · show _ + (markL ([] : List Int)).length ≤ _; omega
  · trivial
end Go.Proofs.Ytgiippbjieecmaa
