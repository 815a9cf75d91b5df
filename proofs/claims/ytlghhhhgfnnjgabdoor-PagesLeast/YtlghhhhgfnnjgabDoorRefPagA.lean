/- joistref13.cell, span, taken by their contracts. -/
import Derived.Test.YtlghhhhgfnnjgabDoorPlcM
import Derived.Test.YtlghhhhgfnnjgabDoorObjR
import Derived.Test.YtlghhhhgfnnjgabDoorGapA
import Derived.Test.YtlghhhhgfnnjgabDoorClsB
import Derived.Deep.RegionHeld3
namespace Go.Proofs.YtlghhhhgfnnjgabDoor
set_option maxRecDepth 100000
open Go.RowKit
set_option linter.unusedVariables false
set_option linter.unusedSimpArgs false
set_option maxRecDepth 100000

theorem results_four {fn : Func} {t u v x : Tmp} (h : fn.results = #[.tmp t, .tmp u, .tmp v, .tmp x]) (tmps : Array Value) (P : Program) (w : World) :
    (results fn tmps).run P w = .ok (.tuple #[tmps.getD t undef, tmps.getD u undef, tmps.getD v undef, tmps.getD x undef]) w := by
  simp [results, h]

/-- The four answers of 'cell'. -/
def SmA (o : Spn) : Prop := (1 ≤ o.sz ∧ o.sz ≤ 120) ∧ 0 ≤ o.pos
instance (o : Spn) : Decidable (SmA o) := by unfold SmA; exact inferInstance
def cpN (o : Spn) : Int := if SmA o then pgA o else 0
def ccN (o : Spn) : Int := if SmA o then (clN o.sz : Int) else 0
def ckN (o : Spn) : Int := if SmA o then whN (clN o.sz) (o.pos % 32) else 0
def smB (o : Spn) : Bool := decide (SmC o)
theorem sm_t {o : Spn} (h : SmC o) : cpN o = pgA o ∧ ccN o = clN o.sz ∧ smB o = true := ⟨if_pos ⟨h.1, h.2.1⟩, if_pos ⟨h.1, h.2.1⟩, decide_eq_true h⟩
theorem sm_f {o : Spn} (h : ¬ SmC o) : smB o = false := decide_eq_false h
theorem cell_no {o : Spn} (h : ¬ SmA o) : cpN o = 0 ∧ ccN o = 0 ∧ ckN o = 0 ∧ smB o = false := ⟨if_neg h, if_neg h, if_neg h, decide_eq_false fun c => h ⟨c.1, c.2.1⟩⟩
theorem cell_yes {o : Spn} (h : SmA o) : cpN o = o.pos / 32 ∧ ccN o = clN o.sz ∧ ckN o = whN (clN o.sz) (o.pos % 32) ∧ smB o = whB (clN o.sz) (o.pos % 32) := by
  refine ⟨if_pos h, if_pos h, if_pos h, ?_⟩
  unfold smB whB
  exact decide_eq_decide.2 ⟨fun c => c.2.2, fun c => ⟨h.1, h.2, c⟩⟩

/-- The answers of 'span'. -/
def LgA (o : Spn) : Prop := (120 < o.sz ∧ o.sz ≤ 2048) ∧ 0 ≤ o.pos ∧ o.pos % 32 = 0
instance (o : Spn) : Decidable (LgA o) := by unfold LgA; exact inferInstance
def spO (o : Spn) : Spn := if SmC o then ⟨o.pos / 32, 1⟩ else if LgA o then ⟨o.pos / 32, pgN o.sz⟩ else ⟨0, 0⟩
def inB (P : Int) (o : Spn) : Bool := decide (InC P o)
theorem inB_t {P : Int} {o : Spn} (h : InC P o) : inB P o = true := decide_eq_true h
theorem inB_f {P : Int} {o : Spn} (h : ¬ InC P o) : inB P o = false := decide_eq_false h
theorem spO_in {P : Int} {o : Spn} (h : InC P o) : spO o = ⟨pgA o, pgK o⟩ := by
  by_cases hs : o.sz ≤ 120
  · unfold spO
    rw [if_pos (h.small hs).1, pgK_small hs]
    rfl
  · obtain ⟨l1, l2, l3, l4⟩ := h.large hs
    unfold spO
    rw [if_neg (fun c : SmC o => hs c.1.2), if_pos ⟨l1, l2, l3⟩, pgK_large hs]
    rfl
theorem sp_small {P : Int} {o : Spn} (h : SmC o) : spO o = ⟨o.pos / 32, 1⟩ ∧ inB P o = decide (o.pos / 32 < P) := by
  refine ⟨if_pos h, ?_⟩
  unfold inB
  refine decide_eq_decide.2 ⟨fun c => ?_, fun c => Or.inl ⟨h, c⟩⟩
  exact (c.small h.1.2).2
theorem sp_large {P : Int} {o : Spn} (h : LgA o) : spO o = ⟨o.pos / 32, pgN o.sz⟩ ∧ inB P o = decide (o.pos / 32 + pgN o.sz ≤ P) := by
  have hn : ¬ SmC o := fun c => by have := c.1.2; have := h.1.1; omega
  refine ⟨by unfold spO; rw [if_neg hn, if_pos h], ?_⟩
  unfold inB
  refine decide_eq_decide.2 ⟨fun c => ?_, fun c => Or.inr ⟨h.1, h.2.1, h.2.2, c⟩⟩
  rcases c with ⟨c, _⟩ | c
  · exact (hn c).elim
  · exact c.2.2.2
theorem sp_not {P : Int} {o : Spn} (h : ¬ SmC o) (h2 : ¬ LgA o) : spO o = ⟨0, 0⟩ ∧ inB P o = false := by
  refine ⟨by unfold spO; rw [if_neg h, if_neg h2], inB_f fun c => ?_⟩
  rcases c with ⟨c, _⟩ | c
  · exact h c
  · exact h2 ⟨c.1, c.2.1, c.2.2.1⟩

theorem late_new (w1 : World) (b : Nat) (q K : Int) :
    (((w1.setCell ⟨b, 0, none⟩ (.int .i64 q)).setCell ⟨b, 1, none⟩ (.int .i64 K)).alloc (.cells #[.int .i64 q, .int .i64 K] 29)).drew.cell? ⟨w1.heap.size, 0, none⟩ = some (.int .i64 q) ∧
    (((w1.setCell ⟨b, 0, none⟩ (.int .i64 q)).setCell ⟨b, 1, none⟩ (.int .i64 K)).alloc (.cells #[.int .i64 q, .int .i64 K] 29)).drew.cell? ⟨w1.heap.size, 1, none⟩ = some (.int .i64 K) := by
  have h := (bxP_new' ((w1.setCell ⟨b, 0, none⟩ (.int .i64 q)).setCell ⟨b, 1, none⟩ (.int .i64 K)) q K).kept (Below.refl _ _).drew
  rw [show ((w1.setCell ⟨b, 0, none⟩ (.int .i64 q)).setCell ⟨b, 1, none⟩ (.int .i64 K)).heap.size = w1.heap.size by simp [World.setCell]] at h
  exact ⟨h.cells.1, h.cells.2.1⟩
theorem late_box {w1 : World} {b : Nat} {s : Spn} (h : BxP w1 b s) (q K : Int) :
    BxP (((w1.setCell ⟨b, 0, none⟩ (.int .i64 q)).setCell ⟨b, 1, none⟩ (.int .i64 K)).alloc (.cells #[.int .i64 q, .int .i64 K] 29)).drew b ⟨q, K⟩ :=
  (h.set ⟨q, K⟩).kept (((Below.refl _ _).alloc (Nat.le_refl _) _).drew)
theorem late_below {w w1 : World} {b : Nat} (h : Below w.heap.size w w1) (hb : w.heap.size ≤ b) (u v : Value) (o : Obj) :
    Below w.heap.size w (((w1.setCell ⟨b, 0, none⟩ u).setCell ⟨b, 1, none⟩ v).alloc o).drew :=
  (((h.setCell hb _).setCell hb _).alloc (by simpa [World.setCell] using h.size) _).drew

end Go.Proofs.YtlghhhhgfnnjgabDoor
