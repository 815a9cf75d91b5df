/- append of numbers onto a row of the call's own. -/
import Derived.Test.YtfnnelkipdajiaaDoorApp
namespace Go.Proofs.YtfnnelkipdajiaaDoor
set_option maxRecDepth 100000
open Go.RowKit

theorem sl_int (w : World) (k : Nat) (x : Int) (hk : w.heap.size = k) : Sl .i64 (w.alloc (.cells #[.int .i64 x] 3)) (some ⟨k, 0, none⟩) 1 1 [x] := by
  subst hk
  refine ⟨rfl, Nat.le_refl _, (by intro h; cases h), fun _ => ⟨_, _, rfl, by simp, fun i hi => ?_⟩⟩
  obtain rfl : i = 0 := by omega
  simp
/-- 'append(s, x...)': s of the call's own, or nil; x can be read, or nil. -/
theorem append_il {w : World} {ops : Array Oper} {rest : List Oper} {o : Oper} {a : Act} {Q : Exit → Act → World → Prop} (hgd : o.guard = none) (s x : Operand)
    (ho : o.op = .call { callee := .builtin .append, args := #[s, x], argTypes := #[22, 22] })
    (B : Nat) (v : Value) (n : Nat) (xs : List Int) (hs : a.eval s = v) (hown : w.ownsRow B 3 1 v n (xs.map (Value.int .i64)))
    (ao : Option Addr) (m c : Nat) (zs : List Int) (hx : a.eval x = .slice ao m c) (hsl : Sl .i64 w ao m c zs) (hb : (n + m) * 8 ≤ 140737488355328) (hB : B ≤ w.heap.size)
    (h : ∀ bo c' w', Own .i64 3 B w' bo (n + m) c' (xs ++ zs) → w.grownBy w' v.ownBlock → (bo = none → v = .slice none 0 0) → wpList Tryd.prog ops Q rest (a.put o.dst (.slice bo (n + m) c')) w') : wpList Tryd.prog ops Q (o :: rest) a w := by
  obtain ⟨i0, hi, hz0, hz1, hz2⟩ := info_parts Tryd.info3
  have hxl : xs.length = n := by have := hown.1; simpa using this
  cases ao with
  | none =>
    obtain rfl : c = 0 := hsl.void rfl
    obtain rfl : m = 0 := by have := hsl.room; omega
    have hz : zs = [] := List.eq_nil_of_length_eq_zero hsl.len
    subst hz
    obtain ⟨bo, c', rfl⟩ := own_slice hown
    refine wpList_append_own_none hgd s x 22 ho B 3 i0 1 Tryd.underlying22 hi _ n _ hs hown hx ?_
    have := h bo c' w ⟨by simpa using hxl, by simpa using hown⟩ (World.grownBy.refl _ _) (fun hbo => by
      subst hbo
      rcases hown.2 with ⟨h0, _⟩ | ⟨g, cap, cur, h1, _⟩
      · exact h0
      · simp at h1)
    simpa using this
  | some ad =>
    refine wpList_append_own _ hgd s x 22 ho B 3 i0 (.int .i64 0) 1 8 Tryd.underlying22 hi hz0 hz1 hz2 rfl (by decide) v n _ hs hown ad m c (zs.map (Value.int .i64)) hx (by simp [hsl.len]) hsl.cells (ints_oneCell _ _) (by unfold maxLen; omega) (by omega) hB ?_
    intro v' w' hown' hgrow hnil
    obtain ⟨bo, c', rfl⟩ := own_slice hown'
    refine h bo c' w' ⟨by simp [hxl, hsl.len], by simpa using hown'⟩ hgrow (fun hbo => ?_)
    subst hbo
    rcases hown'.2 with ⟨h0, _⟩ | ⟨g, cap, cur, h1, _⟩
    · exact (hnil.1 h0).1
    · simp at h1

end Go.Proofs.YtfnnelkipdajiaaDoor
