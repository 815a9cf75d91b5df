/- Rows of bytes that can be read. -/
import Derived.Test.YtfnnelkipdajiaaDoorTagM
import Derived.Test.YtfnnelkipdajiaaDoorRow
import Derived.Test.YtfnnelkipdajiaaDoorOff
namespace Go.Proofs.YtfnnelkipdajiaaDoor
set_option maxRecDepth 100000
open Go.RowKit
set_option linter.unusedVariables false
set_option linter.unusedSimpArgs false

/-- n rows of bytes that can be read: the i-th is the slice of A i, N i, C i. -/
structure Rd (w : World) (ao : Option Addr) (n cap : Nat) (A : Nat → Option Addr) (N C : Nat → Nat) (ds : List (List Int)) : Prop where
  len : ds.length = n
  room : n ≤ cap
  void : ao = none → cap = 0
  here : 0 < n → ∃ b off, ao = some ⟨b, off, none⟩ ∧ b < w.heap.size ∧ ∀ i, i < n → w.cell? ⟨b, off + i, none⟩ = some (.slice (A i) (N i) (C i))
  row : ∀ i, i < n → Sl .u8 w (A i) (N i) (C i) (da ds i)
  bytes : ∀ i, i < n → Bytes (da ds i)
  caps : ∀ i, i < n → C i ≤ 9223372036854775807
theorem Rd.below {w w' : World} {ao : Option Addr} {n cap : Nat} {A : Nat → Option Addr} {N C : Nat → Nat} {ds : List (List Int)} (h : Rd w ao n cap A N C ds) (hb : Below w.heap.size w w') : Rd w' ao n cap A N C ds := by
  refine ⟨h.len, h.room, h.void, fun hn => ?_, fun i hi => (h.row i hi).below hb, h.bytes, h.caps⟩
  obtain ⟨b, off, e, hlt, hc⟩ := h.here hn
  refine ⟨b, off, e, Nat.lt_of_lt_of_le hlt hb.size, fun i hi => ?_⟩
  rw [hb.cell (p := ⟨b, off + i, none⟩) hlt]
  exact hc i hi
theorem Rd.off {F : Nat → Prop} {w w' : World} {ao : Option Addr} {n cap : Nat} {A : Nat → Option Addr} {N C : Nat → Nat} {ds : List (List Int)} (h : Rd w ao n cap A N C ds) (ho : Off F w w') (hF : ∀ j, j < w.heap.size → ¬ F j) : Rd w' ao n cap A N C ds :=
  h.below ⟨ho.os, ho.tape, ho.output, ho.size, fun k hk => ho.block k hk (hF k hk)⟩
theorem Rd.cell {w wr : World} {b off n cap : Nat} {A : Nat → Option Addr} {N C : Nat → Nat} {ds : List (List Int)} (h : Rd w (some ⟨b, off, none⟩) n cap A N C ds) (hb : Below w.heap.size w wr) {i : Nat} (hi : i < n) : wr.cell? ⟨b, off + i, none⟩ = some (.slice (A i) (N i) (C i)) := by
  obtain ⟨b', o', e, _, hc⟩ := (h.below hb).here (by omega)
  simp only [Option.some.injEq, Addr.mk.injEq, and_true] at e
  obtain ⟨rfl, rfl⟩ := e
  exact hc i hi
theorem rd_nil (w : World) (A : Nat → Option Addr) (N C : Nat → Nat) : Rd w none 0 0 A N C [] := ⟨rfl, Nat.le_refl _, fun _ => rfl, fun h => absurd h (by omega), fun i h => absurd h (by omega), fun i h => absurd h (by omega), fun i h => absurd h (by omega)⟩
end Go.Proofs.YtfnnelkipdajiaaDoor
