/- lines.Apply by its contract. -/
import Derived.Test.YtgiippbjieecmabDiffP
import Derived.Test.YtgiippbjieecmabSplice
namespace Go.Proofs.Ytgiippbjieecmab
set_option maxRecDepth 100000
open Go.RowKit
set_option linter.unusedVariables false

/-- May they all be laid over N lines? -/
def okA (N : Nat) (cs : List Chg) : Bool := cs.all fun c => fitsB N c.1 c.2.length
/-- One is laid; all are. -/
def lay1 (a : List Int) (c : Chg) : List Int := splice a (64 * c.1.toNat) c.2
def layN (a : List Int) (cs : List Chg) : List Int := cs.foldl lay1 a
theorem okA_snoc (N : Nat) (cs : List Chg) (c : Chg) : okA N (cs ++ [c]) = (okA N cs && fitsB N c.1 c.2.length) := by simp [okA]
theorem okA_take {N : Nat} {cs : List Chg} (h : okA N cs = true) {c : Chg} (hc : c ∈ cs) : fitsB N c.1 c.2.length = true := by
  unfold okA at h
  rw [List.all_eq_true] at h
  exact h c hc
theorem layN_snoc (a : List Int) (cs : List Chg) (c : Chg) : layN a (cs ++ [c]) = lay1 (layN a cs) c := by simp [layN]
theorem says_mem (D : Nat → ChD) {k i : Nat} (h : i < k) : (D i).says ∈ saysN D k := List.mem_of_getElem? (saysN_get D h)
theorem okA_at {N m i : Nat} {D : Nat → ChD} (h : okA N (saysN D m) = true) (hi : i < m) : fitsB N (D i).line (D i).bz.length = true := okA_take h (says_mem D hi)
theorem okA_false {N m i : Nat} {D : Nat → ChD} (hi : i < m) (h : fitsB N (D i).line (D i).bz.length = false) : okA N (saysN D m) = false := by
  cases e : okA N (saysN D m) with
  | false => rfl
  | true => rw [okA_at e hi] at h; cases h

/-- A change of a slice, in a later world. -/
theorem Chs.later {w wr : World} {b off n : Nat} {D : Nat → ChD} (h : Chs w (some ⟨b, off, none⟩) n D) (hb : Below w.heap.size w wr) {k : Nat} (hk : k < n) :
    wr.cell? ⟨b, off + k * 2, none⟩ = some (.int .i64 (D k).line) ∧ wr.cell? ⟨b, off + k * 2 + 1, none⟩ = some (.slice (D k).ba (D k).bl (D k).bc) ∧ ChOk wr (D k) := by
  have h' := h.below hb
  obtain ⟨b', o', e, _, hc⟩ := h'.here (by omega)
  simp only [Option.some.injEq, Addr.mk.injEq, and_true] at e
  obtain ⟨rfl, rfl⟩ := e
  exact ⟨(hc k hk).1, (hc k hk).2, h'.ok k hk⟩

end Go.Proofs.Ytgiippbjieecmab
