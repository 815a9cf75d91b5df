/- StpB: these texts, one behind another. -/
import Derived.Test.YtpbljjbhfhfmgaaGreatDoorMxTabA
import Derived.Test.YtpbljjbhfhfmgaaGreatDoorMxTagP
import Derived.Laws.AppendOwnNone
import Derived.Deep.RegionHeld3
/- Appends of bytes and of one row of bytes at a step of a region that draws its order. -/
namespace Go.Proofs.YtpbljjbhfhfmgaaGreatDoor
set_option maxRecDepth 100000
open Go.RowKit
set_option linter.unusedVariables false

theorem step_append_u8 {w : World} {ops : Array Oper} {o : Oper} {a : Act} {K : Act → World → Prop} {Q : Exit → Act → World → Prop} {E : Prop} (hgd : o.guard = none) (s x : Operand)
    (ho : o.op = .call { callee := .builtin .append, args := #[s, x], argTypes := #[48, 48] })
    (B : Nat) (v : Value) (n : Nat) (xs : List Int) (hs : a.eval s = v) (hown : w.ownsRow B 5 1 v n (xs.map (Value.int .u8)))
    (ao : Option Addr) (m c : Nat) (zs : List Int) (hx : a.eval x = .slice ao m c) (hsl : Sl .u8 w ao m c zs) (hb : n + m ≤ 140737488355328) (hB : B ≤ w.heap.size)
    (h : ∀ bo c' w', Own .u8 5 B w' bo (n + m) c' (xs ++ zs) → w.grownBy w' v.ownBlock → K (a.put o.dst (.slice bo (n + m) c')) w') :
    if Region.wanted o (yielded ops a.tmps) = true then Oper.wp Tryz.prog o a w K Q else E := by
  have hw : Region.wanted o (yielded ops a.tmps) = true := by simp [Region.wanted, hgd]
  rw [if_pos hw]
  obtain ⟨i0, hi, hz0, hz1, hz2⟩ := info_parts Tryz.info5
  have hxl : xs.length = n := by have := hown.1; simpa using this
  cases ao with
  | none =>
    obtain rfl : c = 0 := hsl.void rfl
    obtain rfl : m = 0 := by have := hsl.room; omega
    have hz : zs = [] := List.eq_nil_of_length_eq_zero hsl.len
    subst hz
    obtain ⟨bo, c', rfl⟩ := own_slice hown
    have hrun := run_append_owned_none (P := Tryz.prog) (w := w) B 48 o.type 5 i0 1 Tryz.underlying48 hi _ n _ hown
    have hk := h bo c' w ⟨by simpa using hxl, by simpa using hown⟩ (World.grownBy.refl _ _)
    unfold Oper.wp
    simp [execOp, ho, resolve, invoke, builtin, hs, hx, hrun, Result.andThen, Oper.upon_value]
    simpa using hk
  | some ad =>
    obtain ⟨v', w', hrun, r1, r2, _⟩ := run_append_own (P := Tryz.prog) w B 48 o.type 5 i0 (.int .u8 0) 1 1 Tryz.underlying48 hi hz0 hz1 hz2 rfl (by decide) v n _ hown ad m c (zs.map (Value.int .u8)) (by simp [hsl.len]) hsl.cells (ints_oneCell _ _) (by unfold maxLen; omega) (by omega) hB
    obtain ⟨bo, c', rfl⟩ := own_slice r1
    unfold Oper.wp
    simp [execOp, ho, resolve, invoke, builtin, hs, hx, hrun, Result.andThen]
    exact h bo c' w' ⟨by simp [hxl, hsl.len], by simpa using r1⟩ r2
theorem step_append_row1 {w : World} {ops : Array Oper} {o : Oper} {a : Act} {K : Act → World → Prop} {Q : Exit → Act → World → Prop} {E : Prop} (hgd : o.guard = none) (s x : Operand)
    (ho : o.op = .call { callee := .builtin .append, args := #[s, x], argTypes := #[26, 26] })
    (B : Nat) (v : Value) (n : Nat) (vs : List Value) (hs : a.eval s = v) (hown : w.ownsRow B 48 1 v n vs)
    (g : Nat) (ao : Option Addr) (m c : Nat) (hx : a.eval x = .slice (some ⟨g, 0, none⟩) 1 1) (hc : w.cell? ⟨g, 0, none⟩ = some (.slice ao m c)) (hb : (n + 1) * 24 ≤ 140737488355328) (hB : B ≤ w.heap.size)
    (h : ∀ bo c' w', w'.ownsRow B 48 1 (.slice bo (n + 1) c') (n + 1) (vs ++ [.slice ao m c]) → w.grownBy w' v.ownBlock → K (a.put o.dst (.slice bo (n + 1) c')) w') :
    if Region.wanted o (yielded ops a.tmps) = true then Oper.wp Tryz.prog o a w K Q else E := by
  have hw : Region.wanted o (yielded ops a.tmps) = true := by simp [Region.wanted, hgd]
  rw [if_pos hw]
  obtain ⟨i0, hi, hz0, hz1, hz2⟩ := info_parts Tryz.info48
  obtain ⟨v', w', hrun, r1, r2, _⟩ := run_append_own (P := Tryz.prog) w B 26 o.type 48 i0 (.slice none 0 0) 1 24 Tryz.underlying26 hi hz0 hz1 hz2 rfl (by decide) v n _ hown ⟨g, 0, none⟩ 1 1 [.slice ao m c] (by simp) (fun j u hu => by
    match j, hu with
    | 0, hu => simp at hu; subst hu; exact hc) (fun u hu => by rw [List.mem_singleton.1 hu]; rfl) (by unfold maxLen; omega) (by omega) hB
  obtain ⟨bo, c', rfl⟩ := own_slice r1
  unfold Oper.wp
  simp [execOp, ho, resolve, invoke, builtin, hs, hx, hrun, Result.andThen]
  exact h bo c' w' (by simpa using r1) r2
end Go.Proofs.YtpbljjbhfhfmgaaGreatDoor
