/- RefSur · SucA: these texts, one behind another. -/
import Derived.Test.YtpbljjbhfhfmgaaGreatDoorMxRefSup
import Derived.Test.YtpbljjbhfhfmgaaGreatDoorMxRefOf
import Derived.Test.YtpbljjbhfhfmgaaGreatDoorMxLent
import Derived.Deep.RegionHeld3
import Derived.Test.YtpbljjbhfhfmgaaGreatDoorMxNtP
import Derived.Test.YtpbljjbhfhfmgaaGreatDoorMxSeal
/- joistref17.Read by its contract. -/
namespace Go.Proofs.YtpbljjbhfhfmgaaGreatDoor
set_option maxRecDepth 100000
open Go.RowKit
set_option linter.unusedVariables false
set_option linter.unusedSimpArgs false
set_option maxRecDepth 100000

theorem eight {l : List Int} (h : l.length = 8) : ∃ a b c d e f g i, l = [a, b, c, d, e, f, g, i] := by
  match l, h with
  | [a, b, c, d, e, f, g, i], _ => exact ⟨a, b, c, d, e, f, g, i, rfl⟩
def zShp : Shp := ⟨0, 0, 0, 0⟩
theorem own_eight {B : Nat} {w : World} {g c : Nat} {x0 x1 x2 x3 x4 x5 x6 x7 : Int} (h : Own .i64 3 B w (some ⟨g, 0, none⟩) 8 c [x0, x1, x2, x3, x4, x5, x6, x7]) : w.cell? ⟨g, 0, none⟩ = some (.int .i64 x0) ∧ w.cell? ⟨g, 1, none⟩ = some (.int .i64 x1) ∧ w.cell? ⟨g, 2, none⟩ = some (.int .i64 x2) ∧ w.cell? ⟨g, 3, none⟩ = some (.int .i64 x3) ∧ w.cell? ⟨g, 4, none⟩ = some (.int .i64 x4) ∧ w.cell? ⟨g, 5, none⟩ = some (.int .i64 x5) ∧ w.cell? ⟨g, 6, none⟩ = some (.int .i64 x6) ∧ w.cell? ⟨g, 7, none⟩ = some (.int .i64 x7) := by
  obtain ⟨b, off, he, _, hc⟩ := h.sl.here (by omega)
  cases he
  have k0 := hc 0 (by omega)
  have k1 := hc 1 (by omega)
  have k2 := hc 2 (by omega)
  have k3 := hc 3 (by omega)
  have k4 := hc 4 (by omega)
  have k5 := hc 5 (by omega)
  have k6 := hc 6 (by omega)
  have k7 := hc 7 (by omega)
  simp at k0 k1 k2 k3 k4 k5 k6 k7
  exact ⟨k0, k1, k2, k3, k4, k5, k6, k7⟩
theorem own_ge {B : Nat} {w : World} {g n c : Nat} {zs : List Int} (h : Own .i64 3 B w (some ⟨g, 0, none⟩) n c zs) : B ≤ g := (h.row.lt g rfl).1
end Go.Proofs.YtpbljjbhfhfmgaaGreatDoor
/- super's isMode, baseMayBe, Right, Write and numbers by their contracts; what the seven numbers of a line tell, in plain words. -/
namespace Go.Proofs.YtpbljjbhfhfmgaaGreatDoor
set_option maxRecDepth 100000
open Go.RowKit
set_option linter.unusedVariables false
set_option linter.unusedSimpArgs false
set_option maxRecDepth 100000

/-- A mode's number. -/
def imB (m : Int) : Bool := decide (1 ≤ m ∧ m ≤ 4)
/-- A mode goes with a base. -/
def BmP (m b p : Int) : Prop := (m = 1 ∧ b = 0) ∨ (m = 2 ∧ b = p) ∨ ((m = 3 ∨ m = 4) ∧ 0 ≤ b ∧ b ≤ p)
instance (m b p : Int) : Decidable (BmP m b p) := by unfold BmP; exact inferInstance
def bmB (m b p : Int) : Bool := decide (BmP m b p)
theorem hp_bm (s : Shp) (m b : Int) : hpB s m b = (shB s && bmB m b s.pg) := by
  unfold hpB bmB shB
  rw [Bool.eq_iff_iff, Bool.and_eq_true, decide_eq_true_eq, decide_eq_true_eq, decide_eq_true_eq]
  constructor
  · rintro ⟨h, h1, h2, h3⟩
    refine ⟨h, ?_⟩
    unfold BmP
    omega
  · rintro ⟨h, h1⟩
    have h2 := h.1
    unfold BmP at h1
    refine ⟨h, ?_⟩
    unfold MdP
    omega
theorem base_any (m b p : Int) (w : World) :
    Calls Tryz.prog 72 #[.int .i64 m, .int .i64 b, .int .i64 p] w fun e w' => e = .returned (.bool (bmB m b p)) ∧ w = w' := by
  rcases nm_cases m with rfl | rfl | rfl | rfl | ⟨h1, h2, h3, h4⟩
  · by_cases h : b = 0
    · rw [show bmB 1 b p = true from decide_eq_true (by unfold BmP; omega)]
      go_enter Tryz.func72, Tryz.ntmps72
      go_wp2
      go_ret
      exact ⟨rfl, rfl⟩
    · rw [show bmB 1 b p = false from decide_eq_false (by unfold BmP; omega)]
      go_enter Tryz.func72, Tryz.ntmps72
      go_wp2
      go_ret
      exact ⟨ret_bool (beq_false_of_ne h), rfl⟩
  · by_cases h : b = p
    · rw [show bmB 2 b p = true from decide_eq_true (by unfold BmP; omega)]
      go_enter Tryz.func72, Tryz.ntmps72
      go_wp2
      go_ret
      exact ⟨rfl, rfl⟩
    · rw [show bmB 2 b p = false from decide_eq_false (by unfold BmP; omega)]
      go_enter Tryz.func72, Tryz.ntmps72
      go_wp2
      go_ret
      exact ⟨ret_bool (beq_false_of_ne h), rfl⟩
  · by_cases h : 0 ≤ b
    · by_cases g : b ≤ p
      · rw [show bmB 3 b p = true from decide_eq_true (by unfold BmP; omega)]
        go_enter Tryz.func72, Tryz.ntmps72
        go_wp2
        go_ret
        exact ⟨rfl, rfl⟩
      · rw [show bmB 3 b p = false from decide_eq_false (by unfold BmP; omega)]
        go_enter Tryz.func72, Tryz.ntmps72
        go_wp2
        go_ret
        exact ⟨rfl, rfl⟩
    · rw [show bmB 3 b p = false from decide_eq_false (by unfold BmP; omega)]
      go_enter Tryz.func72, Tryz.ntmps72
      go_wp2
      go_ret
      exact ⟨rfl, rfl⟩
  · by_cases h : 0 ≤ b
    · by_cases g : b ≤ p
      · rw [show bmB 4 b p = true from decide_eq_true (by unfold BmP; omega)]
        go_enter Tryz.func72, Tryz.ntmps72
        go_wp2
        go_ret
        exact ⟨rfl, rfl⟩
      · rw [show bmB 4 b p = false from decide_eq_false (by unfold BmP; omega)]
        go_enter Tryz.func72, Tryz.ntmps72
        go_wp2
        go_ret
        exact ⟨rfl, rfl⟩
    · rw [show bmB 4 b p = false from decide_eq_false (by unfold BmP; omega)]
      go_enter Tryz.func72, Tryz.ntmps72
      go_wp2
      go_ret
      exact ⟨rfl, rfl⟩
  · rw [show bmB m b p = false from decide_eq_false (by unfold BmP; omega)]
    go_enter Tryz.func72, Tryz.ntmps72
    go_wp2
    go_ret
    exact ⟨rfl, rfl⟩
theorem suRight_any (s : Shp) (hs : ShG s) (m b : Int) (hm : Rg m) (hb : Rg b) (w : World) :
    Calls Tryz.prog 44 #[.agg #[.int .i64 s.pg, .int .i64 s.sl, .int .i64 s.rt, .int .i64 s.rm], .int .i64 m, .int .i64 b] w fun e w' => e = .returned (.bool (hpB s m b)) ∧ Below w.heap.size w w' := by
  have hb0 : Below w.heap.size w (w.alloc (.cells #[.int .i64 s.pg, .int .i64 s.sl, .int .i64 s.rt, .int .i64 s.rm] 23)) := (Below.refl _ _).alloc (Nat.le_refl _) _
  have hS := bxS4_new w s
  have cR := shRight_any s hs (w.alloc (.cells #[.int .i64 s.pg, .int .i64 s.sl, .int .i64 s.rt, .int .i64 s.rm] 23))
  have cB : ∀ w1, _ := fun w1 => base_any m b s.pg w1
  rw [hp_bm]
  generalize shB s = x at *
  generalize bmB m b s.pg = y at *
  clear hm hb hs
  cases x
  · simp only [Bool.false_and]
    go_enter Tryz.func44, Tryz.ntmps44
    go_wp2_with (first
      | (go_at_call 71; with_reducible refine cR.mono ?_; rintro e w1 ⟨rfl, hb1⟩; obtain ⟨q0, q1, q2, q3⟩ := (hS.kept hb1).cells)
      | (go_at_call 72; with_reducible refine (cB _).mono ?_; rintro e w2 ⟨rfl, rfl⟩))
    go_ret
    exact ⟨rfl, next hb0 hb1⟩
  · simp only [Bool.true_and]
    go_enter Tryz.func44, Tryz.ntmps44
    go_wp2_with (first
      | (go_at_call 71; with_reducible refine cR.mono ?_; rintro e w1 ⟨rfl, hb1⟩; obtain ⟨q0, q1, q2, q3⟩ := (hS.kept hb1).cells)
      | (go_at_call 72; with_reducible refine (cB _).mono ?_; rintro e w2 ⟨rfl, rfl⟩))
    go_ret
    exact ⟨rfl, next hb0 hb1⟩
end Go.Proofs.YtpbljjbhfhfmgaaGreatDoor
