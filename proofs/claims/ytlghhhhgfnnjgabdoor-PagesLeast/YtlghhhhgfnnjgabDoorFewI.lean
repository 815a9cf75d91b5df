/- How many different numbers there can be below one. -/
import Derived.Test.YtlghhhhgfnnjgabDoorMath
namespace Go.Proofs.YtlghhhhgfnnjgabDoor
set_option maxRecDepth 100000
set_option linter.unusedVariables false
set_option linter.unusedSimpArgs false

theorem few_ints (n : Nat) : ∀ (l : List Int), l.Nodup → (∀ x ∈ l, 0 ≤ x ∧ x < (n : Int)) → l.length ≤ n := by
  induction n with
  | zero =>
    intro l _ hl
    cases l with
    | nil => simp
    | cons a l => have := hl a (by simp); omega
  | succ n ih =>
    intro l hn hl
    have h1 := ih (l.filter (fun x => x != (n : Int))) (hn.filter _) (fun x hx => by
      obtain ⟨h1, h2⟩ := List.mem_filter.1 hx
      have h3 := hl x h1
      have h4 : x ≠ (n : Int) := by simpa using h2
      omega)
    have h2 : l.length ≤ (l.filter (fun x => x != (n : Int))).length + 1 := by
      clear ih hl h1
      induction l with
      | nil => simp
      | cons a l ih2 =>
        obtain ⟨ha, hn'⟩ := List.nodup_cons.1 hn
        by_cases e : a = (n : Int)
        · subst e
          have : l.filter (fun x => x != (n : Int)) = l := List.filter_eq_self.2 (fun x hx => by
            have : x ≠ (n : Int) := fun e => ha (e ▸ hx)
            simpa using this)
          simp [this]
        · have e' : (a != (n : Int)) = true := by simpa using e
          simp only [List.filter_cons, e', if_true, List.length_cons]
          have := ih2 hn'
          omega
    omega
end Go.Proofs.YtlghhhhgfnnjgabDoor
