/- append of bytes onto a row of the call's own. -/
import Derived.Test.YtfglbhdfdpnnfaaDoorInfo
import Derived.Laws.AppendOwnNone
namespace Go.Proofs.YtfglbhdfdpnnfaaDoor
set_option maxRecDepth 100000
open Go.RowKit

theorem own_slice {w : World} {B : Nat} {e : TypeId} {v : Value} {n : Nat} {xs : List Value} (h : w.ownsRow B e 1 v n xs) : ∃ bo c, v = .slice bo n c := by
  rcases h.2 with ⟨h0, hn⟩ | ⟨g, cap, cur, rfl, _⟩
  · subst hn
    exact ⟨none, 0, h0⟩
  · exact ⟨_, _, rfl⟩
theorem Sl.cells {k : IntKind} {w : World} {a : Addr} {n cap : Nat} {zs : List Int} (h : Sl k w (some a) n cap zs) : ∀ j u, (zs.map (Value.int k))[j]? = some u → w.cell? (a.add j) = some u := by
  intro j u hu
  have hlen := h.len
  have hj : j < n := by
    have := (List.getElem?_eq_some_iff.1 hu).1
    rw [List.length_map] at this
    omega
  obtain ⟨b', off', e, _, hc⟩ := h.here (by omega)
  simp only [Option.some.injEq] at e
  subst e
  have hj' : j < zs.length := by omega
  rw [Addr.add_lit, hc j hj]
  simp only [List.getElem?_map, List.getElem?_eq_getElem hj', Option.map_some, Option.some.injEq] at hu
  subst hu
  simp [List.getD, List.getElem?_eq_getElem hj']

/-- 'append(s, x...)': s of the call's own, or nil; x can be read, or nil. -/
theorem append_sl {w : World} {ops : Array Oper} {rest : List Oper} {o : Oper} {a : Act} {Q : Exit → Act → World → Prop} (hgd : o.guard = none) (s x : Operand)
    (ho : o.op = .call { callee := .builtin .append, args := #[s, x], argTypes := #[24, 24] })
    (B : Nat) (v : Value) (n : Nat) (xs : List Int) (hs : a.eval s = v) (hown : w.ownsRow B 5 1 v n (xs.map (Value.int .u8)))
    (ao : Option Addr) (m c : Nat) (zs : List Int) (hx : a.eval x = .slice ao m c) (hsl : Sl .u8 w ao m c zs) (hb : n + m ≤ 140737488355328) (hB : B ≤ w.heap.size)
    (h : ∀ bo c' w', Own .u8 5 B w' bo (n + m) c' (xs ++ zs) → w.grownBy w' v.ownBlock → (bo = none → v = .slice none 0 0) → wpList Tryd.prog ops Q rest (a.put o.dst (.slice bo (n + m) c')) w') : wpList Tryd.prog ops Q (o :: rest) a w := by
  obtain ⟨i0, hi, hz0, hz1, hz2⟩ := info_parts Tryd.info5
  have hxl : xs.length = n := by have := hown.1; simpa using this
  cases ao with
  | none =>
    obtain rfl : c = 0 := hsl.void rfl
    obtain rfl : m = 0 := by have := hsl.room; omega
    have hz : zs = [] := List.eq_nil_of_length_eq_zero hsl.len
    subst hz
    obtain ⟨bo, c', rfl⟩ := own_slice hown
    refine wpList_append_own_none hgd s x 24 ho B 5 i0 1 Tryd.underlying24 hi _ n _ hs hown hx ?_
    have := h bo c' w ⟨by simpa using hxl, by simpa using hown⟩ (World.grownBy.refl _ _) (fun hbo => by
      subst hbo
      rcases hown.2 with ⟨h0, _⟩ | ⟨g, cap, cur, h1, _⟩
      · exact h0
      · simp at h1)
    simpa using this
  | some ad =>
    refine wpList_append_own _ hgd s x 24 ho B 5 i0 (.int .u8 0) 1 1 Tryd.underlying24 hi hz0 hz1 hz2 rfl (by decide) v n _ hs hown ad m c (zs.map (Value.int .u8)) hx (by simp [hsl.len]) hsl.cells (ints_oneCell _ _) (by unfold maxLen; omega) (by omega) hB ?_
    intro v' w' hown' hgrow hnil
    obtain ⟨bo, c', rfl⟩ := own_slice hown'
    refine h bo c' w' ⟨by simp [hxl, hsl.len], by simpa using hown'⟩ hgrow (fun hbo => ?_)
    subst hbo
    rcases hown'.2 with ⟨h0, _⟩ | ⟨g, cap, cur, h1, _⟩
    · exact (hnil.1 h0).1
    · simp at h1

end Go.Proofs.YtfglbhdfdpnnfaaDoor
