/- shape.evenTo, eachMayBe, the closure that lays the parts, by their contracts. -/
import Derived.Test.YtfglbhdfdpnnfaaDoorArR
import Derived.Test.YtfglbhdfdpnnfaaDoorNtP
import Derived.Test.YtfglbhdfdpnnfaaDoorLgP
namespace Go.Proofs.YtfglbhdfdpnnfaaDoor
set_option maxRecDepth 100000
open Go.RowKit
set_option linter.unusedVariables false
set_option linter.unusedSimpArgs false
set_option maxRecDepth 100000

def EvT (n m : Int) : Prop := n % 2 = 0 ∧ 2 ≤ n ∧ n ≤ m
instance (n m : Int) : Decidable (EvT n m) := by unfold EvT; exact inferInstance
def evB (n m : Int) : Bool := decide (EvT n m)
theorem evenTo_any (n m : Int) (w : World) :
    Calls Tryd.prog 52 #[.int .i64 n, .int .i64 m] w fun e w' => e = .returned (.bool (evB n m)) ∧ w = w' := by
  by_cases h0 : Int.tmod n 2 = 0
  · by_cases h1 : 2 ≤ n
    · by_cases h2 : n ≤ m
      · rw [show evB n m = true from decide_eq_true ⟨by rw [← Int.tmod_eq_emod_of_nonneg (by omega)]; exact h0, h1, h2⟩]
        go_enter Tryd.func52, Tryd.ntmps52
        go_wp2
        go_ret
        exact ⟨rfl, rfl⟩
      · rw [show evB n m = false from decide_eq_false (fun h => h2 h.2.2)]
        go_enter Tryd.func52, Tryd.ntmps52
        go_wp2
        go_ret
        exact ⟨rfl, rfl⟩
    · rw [show evB n m = false from decide_eq_false (fun h => h1 h.2.1)]
      go_enter Tryd.func52, Tryd.ntmps52
      go_wp2
      go_ret
      exact ⟨rfl, rfl⟩
  · rw [show evB n m = false from decide_eq_false (fun h => h0 (by rw [Int.tmod_eq_emod_of_nonneg (by have := h.2.1; omega)]; exact h.1))]
    have z : (Int.tmod n 2 == 0) = false := by simpa using h0
    clear h0
    go_enter Tryd.func52, Tryd.ntmps52
    go_wp2
    go_ret
    exact ⟨rfl, rfl⟩
/-- What each number must be, by itself. -/
def MayN (s : Shp) : Prop := (1 ≤ s.pg ∧ s.pg ≤ 64) ∧ EvT s.sl 32 ∧ EvT s.rt 8 ∧ 1 ≤ s.rm ∧ s.rm ≤ 4096
instance (s : Shp) : Decidable (MayN s) := by unfold MayN; exact inferInstance
def mayNB (s : Shp) : Bool := decide (MayN s)
theorem eachMayBe_any (s : Shp) (w : World) :
    Calls Tryd.prog 47 #[.agg #[.int .i64 s.pg, .int .i64 s.sl, .int .i64 s.rt, .int .i64 s.rm]] w fun e w' => e = .returned (.bool (mayNB s)) ∧ Below w.heap.size w w' := by
  obtain ⟨pg, sl, rt, rm⟩ := s
  simp only
  have hb0 : Below w.heap.size w (w.alloc (.cells #[.int .i64 pg, .int .i64 sl, .int .i64 rt, .int .i64 rm] 23)) := (Below.refl _ _).alloc (Nat.le_refl _) _
  have cE : ∀ n m w1, _ := fun n m w1 => evenTo_any n m w1
  by_cases h0 : 1 ≤ pg
  · by_cases h1 : pg ≤ 64
    · by_cases h2 : EvT sl 32
      · have b2 : evB sl 32 = true := decide_eq_true h2
        by_cases h3 : EvT rt 8
        · have b3 : evB rt 8 = true := decide_eq_true h3
          by_cases h4 : 1 ≤ rm
          · by_cases h5 : rm ≤ 4096
            · rw [show mayNB ⟨pg, sl, rt, rm⟩ = true from decide_eq_true ⟨⟨h0, h1⟩, h2, h3, h4, h5⟩]
              clear h2 h3
              go_enter Tryd.func47, Tryd.ntmps47
              go_wp2_with (first
                | (go_at_call 52; with_reducible refine (cE _ _ _).mono ?_; rintro e w1 ⟨rfl, rfl⟩))
              go_ret
              exact ⟨rfl, hb0⟩
            · rw [show mayNB ⟨pg, sl, rt, rm⟩ = false from decide_eq_false (fun h => h5 h.2.2.2.2)]
              clear h2 h3
              go_enter Tryd.func47, Tryd.ntmps47
              go_wp2_with (first
                | (go_at_call 52; with_reducible refine (cE _ _ _).mono ?_; rintro e w1 ⟨rfl, rfl⟩))
              go_ret
              exact ⟨ret_bool (decide_eq_false (by omega)), hb0⟩
          · rw [show mayNB ⟨pg, sl, rt, rm⟩ = false from decide_eq_false (fun h => h4 h.2.2.2.1)]
            clear h2 h3
            go_enter Tryd.func47, Tryd.ntmps47
            go_wp2_with (first
              | (go_at_call 52; with_reducible refine (cE _ _ _).mono ?_; rintro e w1 ⟨rfl, rfl⟩))
            go_ret
            exact ⟨rfl, hb0⟩
        · rw [show mayNB ⟨pg, sl, rt, rm⟩ = false from decide_eq_false (fun h => h3 h.2.2.1)]
          have b3 : evB rt 8 = false := decide_eq_false h3
          clear h2 h3
          go_enter Tryd.func47, Tryd.ntmps47
          go_wp2_with (first
            | (go_at_call 52; with_reducible refine (cE _ _ _).mono ?_; rintro e w1 ⟨rfl, rfl⟩))
          go_ret
          exact ⟨rfl, hb0⟩
      · rw [show mayNB ⟨pg, sl, rt, rm⟩ = false from decide_eq_false (fun h => h2 h.2.1)]
        have b2 : evB sl 32 = false := decide_eq_false h2
        clear h2
        go_enter Tryd.func47, Tryd.ntmps47
        go_wp2_with (first
          | (go_at_call 52; with_reducible refine (cE _ _ _).mono ?_; rintro e w1 ⟨rfl, rfl⟩))
        go_ret
        exact ⟨rfl, hb0⟩
    · rw [show mayNB ⟨pg, sl, rt, rm⟩ = false from decide_eq_false (fun h => h1 h.1.2)]
      go_enter Tryd.func47, Tryd.ntmps47
      go_wp2_with (first
        | (go_at_call 52; with_reducible refine (cE _ _ _).mono ?_; rintro e w1 ⟨rfl, rfl⟩))
      go_ret
      exact ⟨rfl, hb0⟩
  · rw [show mayNB ⟨pg, sl, rt, rm⟩ = false from decide_eq_false (fun h => h0 h.1.1)]
    go_enter Tryd.func47, Tryd.ntmps47
    go_wp2_with (first
      | (go_at_call 52; with_reducible refine (cE _ _ _).mono ?_; rintro e w1 ⟨rfl, rfl⟩))
    go_ret
    exact ⟨rfl, hb0⟩
theorem next_any (b : Nat) (E n S : Int) (w : World) (hc : w.cell? ⟨b, 0, none⟩ = some (.int .i64 E)) (hf : w.frozen? ⟨b, 0, none⟩ = false) (hS : IntKind.i64.wrap (E + n) = S) :
    Calls Tryd.prog 53 #[.int .i64 n, .pointer (some ⟨b, 0, none⟩)] w fun e w' => e = .returned (.int .i64 E) ∧ w' = w.setCell ⟨b, 0, none⟩ (.int .i64 S) := by
  go_enter Tryd.func53, Tryd.ntmps53
  go_wp2
  go_ret
  exact ⟨rfl, rfl⟩
end Go.Proofs.YtfglbhdfdpnnfaaDoor
