/- Parts of a slice that can be read; a number of a row of the call's own, read and set; a callee that only reads, in a region that draws its order. -/
import Derived.Test.YtfglbhdfdpnnfaaDoorRow
import Derived.Deep.QuietTactic
namespace Go.Proofs.YtfglbhdfdpnnfaaDoor
set_option maxRecDepth 100000
open Go.RowKit

/-- A part of a slice that can be read, as slicing makes it. -/
theorem Sl.sliced {k : IntKind} {w : World} {ao : Option Addr} {n cap : Nat} {zs : List Int} (h : Sl k w ao n cap zs) (i j : Nat) (hij : i ≤ j) (hj : j ≤ n) :
    Sl k w (if cap = i then ao else ao.map (·.add (i * 1))) (j - i) (cap - i) ((zs.drop i).take (j - i)) := by
  have hlen := h.len
  have hroom := h.room
  refine ⟨by simp; omega, by omega, fun hn => ?_, fun hp => ?_⟩
  · by_cases hc : cap = i
    · omega
    · rw [if_neg hc] at hn
      have := h.void (by simpa using hn)
      omega
  · obtain ⟨b, off, rfl, hlt, hc⟩ := h.here (by omega)
    rw [if_neg (by omega)]
    refine ⟨b, off + i, by simp [Addr.add_lit], hlt, fun t ht => ?_⟩
    rw [Nat.add_assoc, hc (i + t) (by omega)]
    simp [List.getD, ht]

theorem quiet_same {P : Program} {f : FuncId} {args : Array Value} {w : World} {n : Nat} {v : Value} (h : Calls P f args (w.drewN n) fun e w' => e = .returned v ∧ w.drewN n = w') : Calls P f args (w.drewN n) fun e w'' => e = .returned v ∧ ∃ m, w'' = w.drewN m :=
  h.mono fun _ _ ⟨he, hm⟩ => ⟨he, n, hm.symm⟩
theorem Own.at {k : IntKind} {e : TypeId} {B : Nat} {w : World} {g n cap : Nat} {zs : List Int} {z : Int} (h : Own k e B w (some ⟨g, 0, none⟩) n cap zs) (i : Nat) (hi : i < n) (hz : zs.getD i 0 = z) : w.cell? ⟨g, i, none⟩ = some (.int k z) := by
  obtain ⟨b, off, e, _, hc⟩ := h.sl.here (by omega)
  simp only [Option.some.injEq, Addr.mk.injEq, and_true] at e
  obtain ⟨rfl, rfl⟩ := e
  have := hc i hi
  rwa [Nat.zero_add, hz] at this
theorem Own.set {k : IntKind} {e : TypeId} {B : Nat} {w : World} {g n cap : Nat} {zs : List Int} (h : Own k e B w (some ⟨g, 0, none⟩) n cap zs) (i : Nat) (y : Int) : Own k e B (w.setCell ⟨g, i, none⟩ (.int k y)) (some ⟨g, 0, none⟩) n cap (zs.set i y) :=
  ⟨by rw [List.length_set]; exact h.len, by rw [List.map_set]; exact (h.row.stored i (.int k y)).1⟩
theorem Own.block {k : IntKind} {e : TypeId} {B : Nat} {w : World} {g n cap : Nat} {zs : List Int} (h : Own k e B w (some ⟨g, 0, none⟩) n cap zs) : ∃ cur, w.heap[g]? = some (.cells cur e (0, 0)) ∧ cur.size = cap ∧ cur.toList.take n = zs.map (Value.int k) := by
  rcases h.row.2 with ⟨hv, _⟩ | ⟨g', cap', cur, hv, _, hh, _, _, hs, ht⟩
  · simp at hv
  · simp only [Value.slice.injEq, Option.some.injEq, Addr.mk.injEq, and_true] at hv
    obtain ⟨rfl, _, rfl⟩ := hv
    exact ⟨cur, hh, by simpa using hs, by simpa using ht⟩
end Go.Proofs.YtfglbhdfdpnnfaaDoor
