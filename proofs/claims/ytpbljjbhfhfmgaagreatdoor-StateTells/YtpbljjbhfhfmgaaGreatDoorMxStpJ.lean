/- StpJ: these texts, one behind another. -/
import Derived.Test.YtpbljjbhfhfmgaaGreatDoorMxTabA
import Derived.Deep.RegionHeld3
/- append of objects, and of blocks, as a step of a region that draws its order. -/
namespace Go.Proofs.YtpbljjbhfhfmgaaGreatDoor
set_option maxRecDepth 100000
open Go.RowKit
set_option linter.unusedVariables false
set_option linter.unusedSimpArgs false
set_option maxRecDepth 100000

/-- 'append(l, e...)' of objects as a step of a region that draws its order. -/
theorem step_append_js {w : World} {ops : Array Oper} {o : Oper} {a : Act} {K : Act → World → Prop} {Q : Exit → Act → World → Prop} {E : Prop} (hgd : o.guard = none) (s x : Operand)
    (ho : o.op = .call { callee := .builtin .append, args := #[s, x], argTypes := #[32, 32] })
    (B : Nat) (v : Value) (n : Nat) (xs : List Spn) (hs : a.eval s = v) (hown : w.ownsRow B 58 2 v n (cellsP xs)) (hxr : ∀ s ∈ xs, RgP s)
    (ad : Addr) (m c : Nat) (zs : List Spn) (hx : a.eval x = .slice (some ad) m c) (hsl : Ps w (some ad) m c zs) (hb : (n + m) * 16 ≤ 140737488355328) (hB : B ≤ w.heap.size)
    (h : ∀ bo c' w', OwJ B w' bo (n + m) c' (xs ++ zs) → w.grownBy w' v.ownBlock → K (a.put o.dst (.slice bo (n + m) c')) w') :
    if Region.wanted o (yielded ops a.tmps) = true then Oper.wp Tryz.prog o a w K Q else E := by
  have hw : Region.wanted o (yielded ops a.tmps) = true := by simp [Region.wanted, hgd]
  rw [if_pos hw]
  obtain ⟨i0, hi, hz0, hz1, hz2⟩ := info_parts Tryz.info58
  have hxl : xs.length = n := by have := hown.1; rw [cellsP_length] at this; omega
  have hzl := hsl.len
  have hcs : ∀ j u, (cellsP zs)[j]? = some u → w.cell? (ad.add j) = some u := by
    intro j u hu
    have hj : 0 < m := by
      have := (List.getElem?_eq_some_iff.1 hu).1
      rw [cellsP_length] at this
      omega
    obtain ⟨b, off, e, _, _⟩ := hsl.here hj
    simp only [Option.some.injEq] at e
    subst e
    have := hsl.part 0 m (by omega) j u (by rw [List.drop_zero, List.take_of_length_le (by omega)]; exact hu)
    simpa using this
  obtain ⟨v', w', hrun, r1, r2, _⟩ := run_append_own (P := Tryz.prog) w B 32 o.type 58 i0 (.agg #[.int .i64 0, .int .i64 0]) 2 16 Tryz.underlying32 hi hz0 hz1 hz2 rfl (by decide) v n _ hown ad m c (cellsP zs) (by rw [cellsP_length, hzl]) hcs (cellsP_one _) (by unfold maxLen; omega) (by omega) hB
  obtain ⟨bo, c', rfl⟩ := own_sliceP r1
  unfold Oper.wp
  simp [execOp, ho, resolve, invoke, builtin, hs, hx, hrun, Result.andThen]
  refine h bo c' w' ⟨by simp [hxl, hzl], by rw [cellsP_append]; exact r1, fun s hs => ?_⟩ r2
  rcases List.mem_append.1 hs with hs | hs
  · exact hxr s hs
  · exact hsl.rg s hs
/-- 'append(l, e...)' of blocks as a step of a region that draws its order. -/
theorem step_append_bs {w : World} {ops : Array Oper} {o : Oper} {a : Act} {K : Act → World → Prop} {Q : Exit → Act → World → Prop} {E : Prop} (hgd : o.guard = none) (s x : Operand)
    (ho : o.op = .call { callee := .builtin .append, args := #[s, x], argTypes := #[39, 39] })
    (B : Nat) (v : Value) (n : Nat) (xs : List Blk) (hs : a.eval s = v) (hown : w.ownsRow B 70 3 v n (cellsB xs)) (hxr : ∀ s ∈ xs, RgB s)
    (ad : Addr) (m c : Nat) (zs : List Blk) (hx : a.eval x = .slice (some ad) m c) (hsl : Bs w (some ad) m c zs) (hb : (n + m) * 24 ≤ 140737488355328) (hB : B ≤ w.heap.size)
    (h : ∀ bo c' w', OwB B w' bo (n + m) c' (xs ++ zs) → w.grownBy w' v.ownBlock → K (a.put o.dst (.slice bo (n + m) c')) w') :
    if Region.wanted o (yielded ops a.tmps) = true then Oper.wp Tryz.prog o a w K Q else E := by
  have hw : Region.wanted o (yielded ops a.tmps) = true := by simp [Region.wanted, hgd]
  rw [if_pos hw]
  obtain ⟨i0, hi, hz0, hz1, hz2⟩ := info_parts Tryz.info70
  have hxl : xs.length = n := by have := hown.1; rw [cellsB_length] at this; omega
  have hzl := hsl.len
  have hcs : ∀ j u, (cellsB zs)[j]? = some u → w.cell? (ad.add j) = some u := by
    intro j u hu
    have hj : 0 < m := by
      have := (List.getElem?_eq_some_iff.1 hu).1
      rw [cellsB_length] at this
      omega
    obtain ⟨b, off, e, _, _⟩ := hsl.here hj
    simp only [Option.some.injEq] at e
    subst e
    have := hsl.part 0 m (by omega) j u (by rw [List.drop_zero, List.take_of_length_le (by omega)]; exact hu)
    simpa using this
  obtain ⟨v', w', hrun, r1, r2, _⟩ := run_append_own (P := Tryz.prog) w B 39 o.type 70 i0 (.agg #[.int .i64 0, .int .i64 0, .int .i64 0]) 3 24 Tryz.underlying39 hi hz0 hz1 hz2 rfl (by decide) v n _ hown ad m c (cellsB zs) (by rw [cellsB_length, hzl]) hcs (cellsB_one _) (by unfold maxLen; omega) (by omega) hB
  obtain ⟨bo, c', rfl⟩ := own_sliceB r1
  unfold Oper.wp
  simp [execOp, ho, resolve, invoke, builtin, hs, hx, hrun, Result.andThen]
  refine h bo c' w' ⟨by simp [hxl, hzl], by rw [cellsB_append]; exact r1, fun s hs => ?_⟩ r2
  rcases List.mem_append.1 hs with hs | hs
  · exact hxr s hs
  · exact hsl.rg s hs
/-- 'append(l, e...)' of spans as a step of a region that draws its order. -/
theorem step_append_ps {w : World} {ops : Array Oper} {o : Oper} {a : Act} {K : Act → World → Prop} {Q : Exit → Act → World → Prop} {E : Prop} (hgd : o.guard = none) (s x : Operand)
    (ho : o.op = .call { callee := .builtin .append, args := #[s, x], argTypes := #[81, 81] })
    (B : Nat) (v : Value) (n : Nat) (xs : List Spn) (hs : a.eval s = v) (hown : w.ownsRow B 104 2 v n (cellsP xs)) (hxr : ∀ s ∈ xs, RgP s)
    (ad : Addr) (m c : Nat) (zs : List Spn) (hx : a.eval x = .slice (some ad) m c) (hsl : Ps w (some ad) m c zs) (hb : (n + m) * 16 ≤ 140737488355328) (hB : B ≤ w.heap.size)
    (h : ∀ bo c' w', OwP B w' bo (n + m) c' (xs ++ zs) → w.grownBy w' v.ownBlock → K (a.put o.dst (.slice bo (n + m) c')) w') :
    if Region.wanted o (yielded ops a.tmps) = true then Oper.wp Tryz.prog o a w K Q else E := by
  have hw : Region.wanted o (yielded ops a.tmps) = true := by simp [Region.wanted, hgd]
  rw [if_pos hw]
  obtain ⟨i0, hi, hz0, hz1, hz2⟩ := info_parts Tryz.info104
  have hxl : xs.length = n := by have := hown.1; rw [cellsP_length] at this; omega
  have hzl := hsl.len
  have hcs : ∀ j u, (cellsP zs)[j]? = some u → w.cell? (ad.add j) = some u := by
    intro j u hu
    have hj : 0 < m := by
      have := (List.getElem?_eq_some_iff.1 hu).1
      rw [cellsP_length] at this
      omega
    obtain ⟨b, off, e, _, _⟩ := hsl.here hj
    simp only [Option.some.injEq] at e
    subst e
    have := hsl.part 0 m (by omega) j u (by rw [List.drop_zero, List.take_of_length_le (by omega)]; exact hu)
    simpa using this
  obtain ⟨v', w', hrun, r1, r2, _⟩ := run_append_own (P := Tryz.prog) w B 81 o.type 104 i0 (.agg #[.int .i64 0, .int .i64 0]) 2 16 Tryz.underlying81 hi hz0 hz1 hz2 rfl (by decide) v n _ hown ad m c (cellsP zs) (by rw [cellsP_length, hzl]) hcs (cellsP_one _) (by unfold maxLen; omega) (by omega) hB
  obtain ⟨bo, c', rfl⟩ := own_sliceP r1
  unfold Oper.wp
  simp [execOp, ho, resolve, invoke, builtin, hs, hx, hrun, Result.andThen]
  refine h bo c' w' ⟨by simp [hxl, hzl], by rw [cellsP_append]; exact r1, fun s hs => ?_⟩ r2
  rcases List.mem_append.1 hs with hs | hs
  · exact hxr s hs
  · exact hsl.rg s hs
theorem take_spL {l : List Blk} {k : Nat} (h : k < l.length) : spL (l.take (k + 1)) = spL (l.take k) ++ [(ba l k).spn] := by rw [take_ba h]; simp [spL]
end Go.Proofs.YtpbljjbhfhfmgaaGreatDoor
