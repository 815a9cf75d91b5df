/- What the walks say of slices of numbers: that one can be read, and that one lies in memory of the call's own. -/
import Derived.Test.YtfglbhdfdpnnfaaDoorMath
import Derived.WalkKit
import Derived.Below
import Derived.Laws.BytesArg
import Derived.Lib.Bytes
import Derived.OpenShut
import Derived.Deep.QuietTactic
namespace Go.Proofs.YtfglbhdfdpnnfaaDoor
set_option maxRecDepth 100000
open Go.RowKit

/-- A slice of n numbers zs that can be read. -/
structure Sl (k : IntKind) (w : World) (ao : Option Addr) (n cap : Nat) (zs : List Int) : Prop where
  len : zs.length = n
  room : n ≤ cap
  void : ao = none → cap = 0
  here : 0 < n → ∃ b off, ao = some ⟨b, off, none⟩ ∧ b < w.heap.size ∧ ∀ i, i < n → w.cell? ⟨b, off + i, none⟩ = some (.int k (zs.getD i 0))

/-- A slice of n numbers zs at the head of a row of the call's own, in a block from B on; or a nil one. -/
structure Own (k : IntKind) (e : TypeId) (B : Nat) (w : World) (ao : Option Addr) (n cap : Nat) (zs : List Int) : Prop where
  len : zs.length = n
  row : w.ownsRow B e 1 (.slice ao n cap) n (zs.map (Value.int k))

theorem Sl.below {k : IntKind} {w w' : World} {ao : Option Addr} {n cap : Nat} {zs : List Int} (h : Sl k w ao n cap zs) (hb : Below w.heap.size w w') : Sl k w' ao n cap zs := by
  refine ⟨h.len, h.room, h.void, fun hn => ?_⟩
  obtain ⟨b, off, e, hlt, hc⟩ := h.here hn
  refine ⟨b, off, e, Nat.lt_of_lt_of_le hlt hb.size, fun i hi => ?_⟩
  rw [hb.cell (p := ⟨b, off + i, none⟩) hlt]
  exact hc i hi

theorem Own.below {k : IntKind} {e : TypeId} {B : Nat} {w w' : World} {ao : Option Addr} {n cap : Nat} {zs : List Int} (h : Own k e B w ao n cap zs) (hb : Below w.heap.size w w') : Own k e B w' ao n cap zs := by
  refine ⟨h.len, h.row.1, ?_⟩
  rcases h.row.2 with hn | ⟨g, cap', cur, hv, hg, hh, r⟩
  · exact Or.inl hn
  · refine Or.inr ⟨g, cap', cur, hv, hg, ?_, r⟩
    rw [hb.block g (Array.getElem?_eq_some_iff.1 hh).1]
    exact hh

theorem Own.sl {k : IntKind} {e : TypeId} {B : Nat} {w : World} {ao : Option Addr} {n cap : Nat} {zs : List Int} (h : Own k e B w ao n cap zs) : Sl k w ao n cap zs := by
  rcases h.row.2 with ⟨hv, hn⟩ | ⟨g, cap', cur, hv, hg, hh, hc, r⟩
  · simp only [Value.slice.injEq] at hv
    obtain ⟨rfl, rfl, rfl⟩ := hv
    exact ⟨h.len, Nat.le_refl _, fun _ => rfl, fun h => absurd h (by omega)⟩
  · simp only [Value.slice.injEq] at hv
    obtain ⟨rfl, _, rfl⟩ := hv
    refine ⟨h.len, hc, (by intro h; cases h), fun _ => ⟨g, 0, rfl, (Array.getElem?_eq_some_iff.1 hh).1, fun i hi => ?_⟩⟩
    rw [Nat.zero_add, h.row.cellAt i (by omega)]
    have : i < zs.length := by rw [h.len]; exact hi
    simp [List.getD, List.getElem?_eq_getElem this]

theorem Own.cap_le {k : IntKind} {e : TypeId} {B : Nat} {w : World} {ao : Option Addr} {n cap : Nat} {zs : List Int} (h : Own k e B w ao n cap zs) : n ≤ cap ∧ cap ≤ 9223372036854775807 := by
  rcases h.row.2 with ⟨hv, hn⟩ | ⟨g, cap', cur, hv, hg, hh, hc, hm, r⟩
  · simp only [Value.slice.injEq] at hv
    obtain ⟨rfl, rfl, rfl⟩ := hv
    exact ⟨Nat.le_refl _, by omega⟩
  · simp only [Value.slice.injEq] at hv
    obtain ⟨rfl, _, rfl⟩ := hv
    exact ⟨hc, by simpa [maxLen] using hm⟩

/-- The cells of a slice that can be read, in a world with a block more. -/
theorem cells_new {k : IntKind} {w : World} {b off n cap : Nat} {zs : List Int} {o : Obj} (h : Sl k w (some ⟨b, off, none⟩) n cap zs) (hlt : b < w.heap.size) :
    ∀ j u, (zs.map (Value.int k))[j]? = some u → (w.alloc o).cell? ((⟨b, off, none⟩ : Addr).add j) = some u := by
  intro j u hu
  have hj : j < n := by
    have := (List.getElem?_eq_some_iff.1 hu).1
    rw [List.length_map, h.len] at this
    exact this
  obtain ⟨b', off', e, _, hc⟩ := h.here (by omega)
  simp only [Option.some.injEq, Addr.mk.injEq, and_true] at e
  obtain ⟨rfl, rfl⟩ := e
  have hb : Below w.heap.size w (w.alloc o) := (Below.refl _ _).alloc (Nat.le_refl _) o
  rw [Addr.add_lit, hb.cell (p := ⟨b, off + j, none⟩) hlt, hc j hj]
  have hj' : j < zs.length := by rw [h.len]; exact hj
  simp only [List.getElem?_map, List.getElem?_eq_getElem hj', Option.map_some, Option.some.injEq] at hu
  subst hu
  simp [List.getD, List.getElem?_eq_getElem hj']

/-- What is owned and not empty lies at the head of a row. -/
theorem own_shape {w : World} {B : Nat} {e : TypeId} {v : Value} {n : Nat} {xs : List Value} (h : w.ownsRow B e 1 v n xs) (hn : 0 < n) : ∃ g cap, v = .slice (some ⟨g, 0, none⟩) n cap := by
  rcases h.2 with ⟨_, h0⟩ | ⟨g, cap, cur, rfl, _⟩
  · omega
  · exact ⟨g, cap, rfl⟩

theorem grown_trans {a b c : World} {row : Option Nat} (h : a.grownBy b row) (k : b.grownBy c row) : a.grownBy c row :=
  ⟨k.os.trans h.os, k.tape.trans h.tape, k.output.trans h.output, Nat.le_trans h.size k.size, fun i hi hr => (k.block i (Nat.lt_of_lt_of_le hi h.size) hr).trans (h.block i hi hr)⟩

/-- One byte of a number more, laid over a row of the call's own. -/
theorem lay_step {w : World} {B g off n cap k : Nat} {e : TypeId} {zs : List Int} {x : Int} (hl : zs.length = n) (hk : off + k < n)
    (ho : w.ownsRow B e 1 (.slice (some ⟨g, 0, none⟩) n cap) n ((putk zs off x k).map (Value.int .u8))) :
    (w.setCell ⟨g, off + k, none⟩ (.int .u8 (x / 2 ^ (8 * k) % 256))).ownsRow B e 1 (.slice (some ⟨g, 0, none⟩) n cap) n ((putk zs off x (k + 1)).map (Value.int .u8)) ∧
      w.grownBy (w.setCell ⟨g, off + k, none⟩ (.int .u8 (x / 2 ^ (8 * k) % 256))) (some g) := by
  have h := ho.stored (off + k) (.int .u8 (x / 2 ^ (8 * k) % 256))
  rw [← putk_set zs off x k (by omega), List.map_set]
  have e1 : byt x k = x / 2 ^ (8 * k) % 256 := by unfold byt; rw [Int.pow_mul]; rfl
  rw [e1]
  exact h

theorem bytes_wf {zs : List Int} (h : ∀ n ∈ zs, (Lit.int .u8 n).wf = true) : Bytes zs := fun z hz => bounds_u8 (h z hz)
theorem below_drewN {B : Nat} {a w : World} (h : Below B a w) (n : Nat) : Below B a (w.drewN n) := h.trans ⟨rfl, rfl, rfl, Nat.le_refl _, fun _ _ => rfl⟩
/-- 'string(b)' of bytes that can be read. -/
theorem Sl.text {P : Program} {w : World} {ao : Option Addr} {n cap : Nat} {zs : List Int} (h : Sl .u8 w ao n cap zs) {src e dst : TypeId} (hs : P.underlying src = some (.slice e)) (he : P.underlying e = some (.int .u8)) (hd : P.underlying dst = some .string) :
    (convert src dst (.slice ao n cap)).run P w = .ok (.string (strOfNums zs)) w := by
  by_cases hn : 0 < n
  · obtain ⟨b, off, rfl, _, hc⟩ := h.here hn
    exact run_convert_bytes_arg w src e hs he b off n cap zs h.len hc dst hd
  · obtain rfl : n = 0 := by omega
    obtain rfl : zs = [] := List.eq_nil_of_length_eq_zero h.len
    cases ao with
    | none => rw [run_convert_bytes_nil w src e hs he 0 cap dst hd]; rfl
    | some a =>
      rw [run_convert_bytes_string w src dst e _ 0 cap hs he hd, run_bytesToString w a 0 cap [] (by simp [loadCells, loadCellsFrom])]
      rfl
theorem next {w a b : World} (h : Below w.heap.size w a) (k : Below a.heap.size a b) : Below w.heap.size w b := h.trans (k.mono h.size)
theorem own_shape' {w : World} {B : Nat} {e : TypeId} {v : Value} {n : Nat} {xs : List Value} (h : w.ownsRow B e 1 v n xs) (hn : ¬ v = .slice none 0 0) : ∃ g cap, v = .slice (some ⟨g, 0, none⟩) n cap := by
  rcases h.2 with ⟨h0, _⟩ | ⟨g, cap, cur, rfl, _⟩
  · exact absurd h0 hn
  · exact ⟨g, cap, rfl⟩
/-- The cells of a part of a slice that can be read. -/
theorem Sl.part {k : IntKind} {w : World} {b off n cap : Nat} {zs : List Int} (h : Sl k w (some ⟨b, off, none⟩) n cap zs) (i m : Nat) (hm : i + m ≤ n) :
    ∀ j u, (((zs.drop i).take m).map (Value.int k))[j]? = some u → w.cell? ((⟨b, off + i, none⟩ : Addr).add j) = some u := by
  intro j u hu
  have hlen := h.len
  have hj : j < m := by
    have := (List.getElem?_eq_some_iff.1 hu).1
    simp at this
    omega
  obtain ⟨b', off', e, _, hc⟩ := h.here (by omega)
  simp only [Option.some.injEq, Addr.mk.injEq, and_true] at e
  obtain ⟨rfl, rfl⟩ := e
  rw [Addr.add_lit, Nat.add_assoc, hc (i + j) (by omega)]
  have hj' : i + j < zs.length := by omega
  simp only [List.getElem?_map, List.getElem?_take, if_pos hj, List.getElem?_drop, List.getElem?_eq_getElem hj', Option.map_some, Option.some.injEq] at hu
  subst hu
  simp [List.getD, List.getElem?_eq_getElem hj']
theorem Own.mono {k : IntKind} {e : TypeId} {B B' : Nat} {w : World} {ao : Option Addr} {n cap : Nat} {zs : List Int} (h : Own k e B w ao n cap zs) (hB : B' ≤ B) : Own k e B' w ao n cap zs := by
  refine ⟨h.len, h.row.1, ?_⟩
  rcases h.row.2 with hn | ⟨g, cap', cur, hv, hg, r⟩
  · exact Or.inl hn
  · exact Or.inr ⟨g, cap', cur, hv, Nat.le_trans hB hg, r⟩
theorem own_nil (k : IntKind) (e : TypeId) (B : Nat) (w : World) : Own k e B w none 0 0 [] := ⟨rfl, World.ownsRow_nil _ _ _ _⟩

end Go.Proofs.YtfglbhdfdpnnfaaDoor
