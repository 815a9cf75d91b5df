/- append of bytes onto a row of the call's own. -/
import Derived.Test.YtlghhhhgfnnjgabDoorInfo
import Derived.Laws.AppendOwnNone
namespace Go.Proofs.YtlghhhhgfnnjgabDoor
set_option maxRecDepth 100000
open Go.RowKit

theorem own_slice {w : World} {B : Nat} {e : TypeId} {v : Value} {n : Nat} {xs : List Value} (h : w.ownsRow B e 1 v n xs) : ∃ bo c, v = .slice bo n c := by
  rcases h.2 with ⟨h0, hn⟩ | ⟨g, cap, cur, rfl, _⟩
  · subst hn
    exact ⟨none, 0, h0⟩
  · exact ⟨_, _, rfl⟩
theorem Sl.cells {k : IntKind} {w : World} {a : Addr} {n cap : Nat} {zs : List Int} (h : Sl k w (some a) n cap zs) : ∀ j u, (zs.map (Value.int k))[j]? = some u → w.cell? (a.add j) = some u := by
  intro j u hu
  have hlen := h.len
  have hj : j < n := by
    have := (List.getElem?_eq_some_iff.1 hu).1
    rw [List.length_map] at this
    omega
  obtain ⟨b', off', e, _, hc⟩ := h.here (by omega)
  simp only [Option.some.injEq] at e
  subst e
  have hj' : j < zs.length := by omega
  rw [Addr.add_lit, hc j hj]
  simp only [List.getElem?_map, List.getElem?_eq_getElem hj', Option.map_some, Option.some.injEq] at hu
  subst hu
  simp [List.getD, List.getElem?_eq_getElem hj']

end Go.Proofs.YtlghhhhgfnnjgabDoor
