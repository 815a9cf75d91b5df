/- 'copy' onto a part of a row of the call's own; a Go function called within a region that draws its order. -/
import Derived.Test.YtfnnelkipdajiaaDoorPart
import Derived.Test.YtfnnelkipdajiaaDoorInfo
import Derived.Laws.CopyOwn
import Derived.Deep.RegionLaw
import Derived.Deep.RegionWith
namespace Go.Proofs.YtfnnelkipdajiaaDoor
set_option maxRecDepth 100000
open Go.RowKit

theorem splice_take {α : Type} (L : List α) (i n : Nat) (cs : List α) (h : i + cs.length ≤ n) (hn : n ≤ L.length) : (splice L i cs).take n = splice (L.take n) i cs := by
  obtain ⟨A, hA⟩ : ∃ A, A = L.take n := ⟨_, rfl⟩
  have hl : A.length = n := by rw [hA]; simp; omega
  have e : L = A ++ L.drop n := by rw [hA]; simp
  have e1 : splice L i cs = splice A i cs ++ L.drop n := by
    unfold splice
    conv => lhs; rw [e]
    rw [List.take_append_of_le_length (by omega), List.drop_append_of_le_length (by omega)]
    simp only [List.append_assoc]
  rw [e1, ← hA, List.take_append_of_le_length (by rw [length_splice A i cs (by omega)]; omega)]
  exact List.take_of_length_le (by rw [length_splice A i cs (by omega)]; omega)
theorem splice_map {α β : Type} (f : α → β) (L : List α) (i : Nat) (cs : List α) : (splice L i cs).map f = splice (L.map f) i (cs.map f) := by
  simp [splice, List.map_take, List.map_drop]
theorem splice_length {L cs : List Int} {i : Nat} (h : i + cs.length ≤ L.length) : (splice L i cs).length = L.length := length_splice L i cs h
theorem splice_bytes {L cs : List Int} {i : Nat} (h : Bytes L) (k : Bytes cs) : Bytes (splice L i cs) := by
  intro z hz
  unfold splice at hz
  simp only [List.mem_append] at hz
  rcases hz with hz | hz | hz
  · exact h z (List.mem_of_mem_take hz)
  · exact k z hz
  · exact h z (List.mem_of_mem_drop hz)

/-- What the row is behind a copy. -/
theorem own_copied {B : Nat} {w : World} {sb L sc i : Nat} {zs ys : List Int} (hown : Own .u8 5 B w (some ⟨sb, 0, none⟩) L sc zs) (hfit : i + ys.length ≤ L) {cur : Array Value} (hc : w.heap[sb]? = some (.cells cur 5 (0, 0))) :
    Own .u8 5 B (w.setRow sb (cur.toList.take i ++ (ys.map (Value.int .u8) ++ cur.toList.drop (i + (ys.map (Value.int .u8)).length))).toArray) (some ⟨sb, 0, none⟩) L sc (splice zs i ys) ∧
    w.grownBy (w.setRow sb (cur.toList.take i ++ (ys.map (Value.int .u8) ++ cur.toList.drop (i + (ys.map (Value.int .u8)).length))).toArray) (some sb) ∧
    (w.setRow sb (cur.toList.take i ++ (ys.map (Value.int .u8) ++ cur.toList.drop (i + (ys.map (Value.int .u8)).length))).toArray).heap.size = w.heap.size := by
  have hlen := hown.len
  rcases hown.row.2 with ⟨hv, _⟩ | ⟨g', cap', cur', hv, hg, hh, h1, h2, hs, ht⟩
  · simp at hv
  · simp only [Value.slice.injEq, Option.some.injEq, Addr.mk.injEq, and_true] at hv
    obtain ⟨rfl, _, rfl⟩ := hv
    rw [hc] at hh
    cases hh
    refine ⟨⟨by rw [splice_length (by omega)]; exact hlen, ?_, Or.inr ⟨sb, sc, _, rfl, hg, setRow_heap w sb _ _ 5 _ hc, h1, h2, ?_, ?_⟩⟩, ⟨rfl, rfl, rfl, by simp [World.setRow], fun k hk hn => setRow_other w sb k _ (fun e => hn (by rw [e]))⟩, by simp [World.setRow]⟩
    · rw [List.length_map, splice_length (by omega)]; simpa using hlen
    · have h3 := length_splice cur.toList i (ys.map (Value.int .u8)) (by simp; omega)
      simp only [splice] at h3
      simp only [List.size_toArray]
      rw [h3]; simpa using hs
    · show (splice cur.toList i (ys.map (Value.int .u8))).take (L * 1) = _
      rw [Nat.mul_one, splice_take _ _ _ _ (by simpa using hfit) (by simp; omega), splice_map]
      congr 1
      simpa using ht
theorem step_copy_sl {ops : Array Oper} {o : Oper} {a : Act} {w : World} {K : Act → World → Prop} {Q : Exit → Act → World → Prop} {E : Prop} (hgd : o.guard = none) (d s : Operand)
    (ho : o.op = .call { callee := .builtin .copy, args := #[d, s], argTypes := #[26, 26] })
    (B g i dLen dCap L sc m sCap : Nat) (so : Option Addr) (hd : a.eval d = .slice (some ⟨g, i, none⟩) dLen dCap) (hs : a.eval s = .slice so m sCap)
    (zs ys : List Int) (hown : Own .u8 5 B w (some ⟨g, 0, none⟩) L sc zs) (hx : Sl .u8 w so m sCap ys) (hm : 0 < m) (hdl : m ≤ dLen) (hfit : i + m ≤ L)
    (h : ∀ w', Own .u8 5 B w' (some ⟨g, 0, none⟩) L sc (splice zs i ys) → w.grownBy w' (some g) → w'.heap.size = w.heap.size → K (a.put o.dst (goInt m)) w') :
    if Region.wanted o (yielded ops a.tmps) = true then Oper.wp Tryd.prog o a w K Q else E := by
  have hw : Region.wanted o (yielded ops a.tmps) = true := by simp [Region.wanted, hgd]
  rw [if_pos hw]
  have hsz : (Tryd.prog.info? 5).map (·.size) = some 1 := by
    obtain ⟨i0, hi, hz0, hz1, hz2⟩ := info_parts Tryd.info5
    rw [hi]; simp [hz1]
  have hyl : ys.length = m := hx.len
  have hmin : (ys.map (Value.int .u8)).length = Nat.min m dLen := by rw [List.length_map, hyl]; exact (Nat.min_eq_left hdl).symm
  obtain ⟨cur, hcur, hsize, _⟩ := hown.block
  have hcap := hown.cap_le
  obtain ⟨r1, r2, r3⟩ := own_copied hown (i := i) (ys := ys) (by omega) hcur
  obtain ⟨b, off, rfl, _, hc⟩ := hx.here hm
  have hrun := run_copy_row (P := Tryd.prog) w 26 26 o.type 5 g i dLen dCap ⟨b, off, none⟩ m sCap cur 5 (ys.map (Value.int .u8)) Tryd.underlying26 hsz hcur hmin (fun j v hv => by
        have hj : j < ys.length := by simpa using (List.getElem?_eq_some_iff.1 hv).1
        rw [Addr.add_lit, hc j (by omega)]
        simp only [List.getElem?_map, List.getElem?_eq_getElem hj, Option.map_some, Option.some.injEq] at hv
        subst hv
        simp [List.getD, List.getElem?_eq_getElem hj]) (by simp; omega) (ints_oneCell _ _)
  unfold Oper.wp
  simp only [execOp, ho, resolve, invoke, builtin]
  have e64 : (ys.map (Value.int .u8)).length = m := by rw [List.length_map, hyl]
  rw [e64] at hrun r1 r2 r3
  simp [hd, hs, hrun, Result.andThen]
  exact h _ r1 r2 r3
/-- A call of a Go function within a region that draws its order, by its contract. -/
theorem step_call {P : Program} {ops : Array Oper} {o : Oper} {a : Act} {w : World} {K : Act → World → Prop} {Q : Exit → Act → World → Prop} {E : Prop} (hgd : o.guard = none) (f : FuncId) (xs : Array Operand) (ts : Array TypeId)
    (ho : o.op = .call { callee := .value (.func f), args := xs, argTypes := ts }) (fn : Func) (hfn : P.funcs[f]? = some fn) (hnm : (fn.name == "runtime.NumGoroutine") = false) (hbd : fn.body.isSome = true) (vs : Array Value) (hv : xs.map a.eval = vs) (v : Value) (R : World → Prop) (hc : Calls P f vs w fun e w' => e = .returned v ∧ R w') (h : ∀ w', R w' → K (a.put o.dst v) w') :
    if Region.wanted o (yielded ops a.tmps) = true then Oper.wp P o a w K Q else E := by
  have hw : Region.wanted o (yielded ops a.tmps) = true := by simp [Region.wanted, hgd]
  rw [if_pos hw]
  unfold Oper.wp
  have hrun : (execOp a.eval o).run P w = .ok (.enter f vs) w := by
    have hcf : (callFunc f vs).run P w = .ok (.enter f vs) w := by
      unfold callFunc
      have h1 : fn.body.isNone = false := by cases e : fn.body with
        | none => rw [e] at hbd; cases hbd
        | some c => rfl
      simp only [Sem.run_bind, program, Sem.run, hfn, Result.andThen_ok]
      rw [if_neg (by rw [hnm]; simp), if_neg (by rw [h1]; simp)]
      rfl
    simp [execOp, ho, resolve, invoke, hv, Act.eval, Deferred.ofValue, hcf]
  rw [hrun, Oper.upon_enter]
  refine hc.mono ?_
  rintro e w' ⟨rfl, hr⟩
  exact h w' hr
theorem step_call2 {P : Program} {ops : Array Oper} {o : Oper} {a : Act} {w : World} {K : Act → World → Prop} {Q : Exit → Act → World → Prop} {E : Prop} (hgd : o.guard = none) (f : FuncId) (x y : Operand) (ts : Array TypeId)
    (ho : o.op = .call { callee := .value (.func f), args := #[x, y], argTypes := ts }) (fn : Func) (hfn : P.funcs[f]? = some fn) (hnm : (fn.name == "runtime.NumGoroutine") = false) (hbd : fn.body.isSome = true) (vx vy : Value) (hx : a.eval x = vx) (hy : a.eval y = vy)
    (v : Value) (R : World → Prop) (hc : Calls P f #[vx, vy] w fun e w' => e = .returned v ∧ R w') (h : ∀ w', R w' → K (a.put o.dst v) w') :
    if Region.wanted o (yielded ops a.tmps) = true then Oper.wp P o a w K Q else E :=
  step_call hgd f #[x, y] ts ho fn hfn hnm hbd #[vx, vy] (by simp [hx, hy]) v R hc h
end Go.Proofs.YtfnnelkipdajiaaDoor
