/- Splice · Dmap · Rng · Dev · DevA · Soil · Copy · Store · Flush · Fence: these texts, one behind another. -/
import Derived.Test.YtgiippbjieecmaaMgA
import Derived.Laws.CopyOwn
import Derived.Deep.RegionLaw
import Derived.Deep.RegionWith
import Derived.Test.YtgiippbjieecmaaProg
import Derived.Lib.SlKeysI
import Derived.Lib.MinMax
/- 'copy' onto a part of a row of the call's own; a Go function called within a region that draws its order. -/
namespace Go.Proofs.Ytgiippbjieecmaa
set_option maxRecDepth 100000
open Go.RowKit

theorem splice_take {α : Type} (L : List α) (i n : Nat) (cs : List α) (h : i + cs.length ≤ n) (hn : n ≤ L.length) : (splice L i cs).take n = splice (L.take n) i cs := by
  obtain ⟨A, hA⟩ : ∃ A, A = L.take n := ⟨_, rfl⟩
  have hl : A.length = n := by rw [hA]; simp; omega
  have e : L = A ++ L.drop n := by rw [hA]; simp
  have e1 : splice L i cs = splice A i cs ++ L.drop n := by
    unfold splice
    conv => lhs; rw [e]
    rw [List.take_append_of_le_length (by omega), List.drop_append_of_le_length (by omega)]
    simp only [List.append_assoc]
  rw [e1, ← hA, List.take_append_of_le_length (by rw [length_splice A i cs (by omega)]; omega)]
  exact List.take_of_length_le (by rw [length_splice A i cs (by omega)]; omega)
theorem splice_map {α β : Type} (f : α → β) (L : List α) (i : Nat) (cs : List α) : (splice L i cs).map f = splice (L.map f) i (cs.map f) := by
  simp [splice, List.map_take, List.map_drop]
theorem splice_length {L cs : List Int} {i : Nat} (h : i + cs.length ≤ L.length) : (splice L i cs).length = L.length := length_splice L i cs h
theorem splice_bytes {L cs : List Int} {i : Nat} (h : Bytes L) (k : Bytes cs) : Bytes (splice L i cs) := by
  intro z hz
  unfold splice at hz
  simp only [List.mem_append] at hz
  rcases hz with hz | hz | hz
  · exact h z (List.mem_of_mem_take hz)
  · exact k z hz
  · exact h z (List.mem_of_mem_drop hz)

/-- What the row is behind a copy. -/
theorem own_copied {B : Nat} {w : World} {sb L sc i : Nat} {zs ys : List Int} (hown : Own .u8 5 B w (some ⟨sb, 0, none⟩) L sc zs) (hfit : i + ys.length ≤ L) {cur : Array Value} (hc : w.heap[sb]? = some (.cells cur 5 (0, 0))) :
    Own .u8 5 B (w.setRow sb (cur.toList.take i ++ (ys.map (Value.int .u8) ++ cur.toList.drop (i + (ys.map (Value.int .u8)).length))).toArray) (some ⟨sb, 0, none⟩) L sc (splice zs i ys) ∧
    w.grownBy (w.setRow sb (cur.toList.take i ++ (ys.map (Value.int .u8) ++ cur.toList.drop (i + (ys.map (Value.int .u8)).length))).toArray) (some sb) ∧
    (w.setRow sb (cur.toList.take i ++ (ys.map (Value.int .u8) ++ cur.toList.drop (i + (ys.map (Value.int .u8)).length))).toArray).heap.size = w.heap.size := by
  have hlen := hown.len
  rcases hown.row.2 with ⟨hv, _⟩ | ⟨g', cap', cur', hv, hg, hh, h1, h2, hs, ht⟩
  · simp at hv
  · simp only [Value.slice.injEq, Option.some.injEq, Addr.mk.injEq, and_true] at hv
    obtain ⟨rfl, _, rfl⟩ := hv
    rw [hc] at hh
    cases hh
    refine ⟨⟨by rw [splice_length (by omega)]; exact hlen, ?_, Or.inr ⟨sb, sc, _, rfl, hg, setRow_heap w sb _ _ 5 _ hc, h1, h2, ?_, ?_⟩⟩, ⟨rfl, rfl, rfl, by simp [World.setRow], fun k hk hn => setRow_other w sb k _ (fun e => hn (by rw [e]))⟩, by simp [World.setRow]⟩
    · rw [List.length_map, splice_length (by omega)]; simpa using hlen
    · have h3 := length_splice cur.toList i (ys.map (Value.int .u8)) (by simp; omega)
      simp only [splice] at h3
      simp only [List.size_toArray]
      rw [h3]; simpa using hs
    · show (splice cur.toList i (ys.map (Value.int .u8))).take (L * 1) = _
      rw [Nat.mul_one, splice_take _ _ _ _ (by simpa using hfit) (by simp; omega), splice_map]
      congr 1
      simpa using ht
theorem step_copy_sl {ops : Array Oper} {o : Oper} {a : Act} {w : World} {K : Act → World → Prop} {Q : Exit → Act → World → Prop} {E : Prop} (hgd : o.guard = none) (d s : Operand)
    (ho : o.op = .call { callee := .builtin .copy, args := #[d, s], argTypes := #[27, 27] })
    (B g i dLen dCap L sc m sCap : Nat) (so : Option Addr) (hd : a.eval d = .slice (some ⟨g, i, none⟩) dLen dCap) (hs : a.eval s = .slice so m sCap)
    (zs ys : List Int) (hown : Own .u8 5 B w (some ⟨g, 0, none⟩) L sc zs) (hx : Sl .u8 w so m sCap ys) (hm : 0 < m) (hdl : m ≤ dLen) (hfit : i + m ≤ L)
    (h : ∀ w', Own .u8 5 B w' (some ⟨g, 0, none⟩) L sc (splice zs i ys) → w.grownBy w' (some g) → w'.heap.size = w.heap.size → K (a.put o.dst (goInt m)) w') :
    if Region.wanted o (yielded ops a.tmps) = true then Oper.wp Try.prog o a w K Q else E := by
  have hw : Region.wanted o (yielded ops a.tmps) = true := by simp [Region.wanted, hgd]
  rw [if_pos hw]
  have hsz : (Try.prog.info? 5).map (·.size) = some 1 := by
    obtain ⟨i0, hi, hz0, hz1, hz2⟩ := info_parts Try.info5
    rw [hi]; simp [hz1]
  have hyl : ys.length = m := hx.len
  have hmin : (ys.map (Value.int .u8)).length = Nat.min m dLen := by rw [List.length_map, hyl]; exact (Nat.min_eq_left hdl).symm
  obtain ⟨cur, hcur, hsize, _⟩ := hown.block
  have hcap := hown.cap_le
  obtain ⟨r1, r2, r3⟩ := own_copied hown (i := i) (ys := ys) (by omega) hcur
  obtain ⟨b, off, rfl, _, hc⟩ := hx.here hm
  have hrun := run_copy_row (P := Try.prog) w 27 27 o.type 5 g i dLen dCap ⟨b, off, none⟩ m sCap cur 5 (ys.map (Value.int .u8)) Try.underlying27 hsz hcur hmin (fun j v hv => by
        have hj : j < ys.length := by simpa using (List.getElem?_eq_some_iff.1 hv).1
        rw [Addr.add_lit, hc j (by omega)]
        simp only [List.getElem?_map, List.getElem?_eq_getElem hj, Option.map_some, Option.some.injEq] at hv
        subst hv
        simp [List.getD, List.getElem?_eq_getElem hj]) (by simp; omega) (ints_oneCell _ _)
  unfold Oper.wp
  simp only [execOp, ho, resolve, invoke, builtin]
  have e64 : (ys.map (Value.int .u8)).length = m := by rw [List.length_map, hyl]
  rw [e64] at hrun r1 r2 r3
  simp [hd, hs, hrun, Result.andThen]
  exact h _ r1 r2 r3
/-- A call of a Go function within a region that draws its order, by its contract. -/
theorem step_call {P : Program} {ops : Array Oper} {o : Oper} {a : Act} {w : World} {K : Act → World → Prop} {Q : Exit → Act → World → Prop} {E : Prop} (hgd : o.guard = none) (f : FuncId) (xs : Array Operand) (ts : Array TypeId)
    (ho : o.op = .call { callee := .value (.func f), args := xs, argTypes := ts }) (fn : Func) (hfn : P.funcs[f]? = some fn) (hnm : (fn.name == "runtime.NumGoroutine") = false) (hbd : fn.body.isSome = true) (vs : Array Value) (hv : xs.map a.eval = vs) (v : Value) (R : World → Prop) (hc : Calls P f vs w fun e w' => e = .returned v ∧ R w') (h : ∀ w', R w' → K (a.put o.dst v) w') :
    if Region.wanted o (yielded ops a.tmps) = true then Oper.wp P o a w K Q else E := by
  have hw : Region.wanted o (yielded ops a.tmps) = true := by simp [Region.wanted, hgd]
  rw [if_pos hw]
  unfold Oper.wp
  have hrun : (execOp a.eval o).run P w = .ok (.enter f vs) w := by
    have hcf : (callFunc f vs).run P w = .ok (.enter f vs) w := by
      unfold callFunc
      have h1 : fn.body.isNone = false := by cases e : fn.body with
        | none => rw [e] at hbd; cases hbd
        | some c => rfl
      simp only [Sem.run_bind, program, Sem.run, hfn, Result.andThen_ok]
      rw [if_neg (by rw [hnm]; simp), if_neg (by rw [h1]; simp)]
      rfl
    simp [execOp, ho, resolve, invoke, hv, Act.eval, Deferred.ofValue, hcf]
  rw [hrun, Oper.upon_enter]
  refine hc.mono ?_
  rintro e w' ⟨rfl, hr⟩
  exact h w' hr
theorem step_call2 {P : Program} {ops : Array Oper} {o : Oper} {a : Act} {w : World} {K : Act → World → Prop} {Q : Exit → Act → World → Prop} {E : Prop} (hgd : o.guard = none) (f : FuncId) (x y : Operand) (ts : Array TypeId)
    (ho : o.op = .call { callee := .value (.func f), args := #[x, y], argTypes := ts }) (fn : Func) (hfn : P.funcs[f]? = some fn) (hnm : (fn.name == "runtime.NumGoroutine") = false) (hbd : fn.body.isSome = true) (vx vy : Value) (hx : a.eval x = vx) (hy : a.eval y = vy)
    (v : Value) (R : World → Prop) (hc : Calls P f #[vx, vy] w fun e w' => e = .returned v ∧ R w') (h : ∀ w', R w' → K (a.put o.dst v) w') :
    if Region.wanted o (yielded ops a.tmps) = true then Oper.wp P o a w K Q else E :=
  step_call hgd f #[x, y] ts ho fn hfn hnm hbd #[vx, vy] (by simp [hx, hy]) v R hc h
end Go.Proofs.Ytgiippbjieecmaa
/- A map from line numbers to lines, as a function of the number. -/
namespace Go.Proofs.Ytgiippbjieecmaa
set_option maxRecDepth 100000
open Go.RowKit Go.Maps

def ptrR (v : Value) : Option (DataW Unit × List MemPlace) :=
  match v with
  | .pointer none => some (.lit (.int .i64 (-1)), [])
  | .pointer (some ⟨b, 0, none⟩) => some (.lit (.int .i64 b), [])
  | _ => none
def ptrV : Option Nat → Value
  | none => .pointer none
  | some l => .pointer (some ⟨l, 0, none⟩)
def ptrD : Option Nat → DataW Unit
  | none => .lit (.int .i64 (-1))
  | some l => .lit (.int .i64 l)
theorem ptrR_mk (o : Option Nat) : ptrR (ptrV o) = some (ptrD o, []) := by cases o <;> rfl
theorem ptrR_inv {v : Value} {y : DataW Unit × List MemPlace} (h : ptrR v = some y) : ∃ o, v = ptrV o ∧ y = (ptrD o, []) := by
  unfold ptrR at h
  split at h
  · cases h; exact ⟨none, rfl, rfl⟩
  · cases h; exact ⟨some _, rfl, rfl⟩
  · cases h
theorem ptrD_inj {a b : Option Nat} (h : ptrD a = ptrD b) : a = b := by
  cases a <;> cases b <;> simp [ptrD] at h ⊢ <;> omega

/-- Block bm is a map whose keys are numbers below N, and that holds g's lines. -/
structure MapIs (w : World) (bm : Nat) (g : Nat → Option Nat) (N : Nat) (D : DataW Unit) : Prop where
  own : w.ownsMap Try.prog 3 ptrR bm N D
  item : ∀ i : Nat, D.atKey (.int .i64 i) (ptrD none) = ptrD (g i)
  keys : ∀ kl, Maps.has D kl = true → ∃ i : Nat, i < N ∧ kl = .int .i64 i
  have_ : ∀ i : Nat, Maps.has D (.int .i64 i) = (g i).isSome
def MapAt (w : World) (bm : Nat) (g : Nat → Option Nat) (N : Nat) : Prop := ∃ D, MapIs w bm g N D

theorem law3 : Keyed Try.prog 3 := int_keyed Try.underlying3
theorem MapIs.lt {w : World} {bm N : Nat} {g : Nat → Option Nat} {D : DataW Unit} (h : MapIs w bm g N D) {i l : Nat} (hi : g i = some l) : i < N := by
  have h1 := h.have_ i
  rw [hi] at h1
  obtain ⟨j, hj, e⟩ := h.keys _ h1
  simp only [Lit.int.injEq, true_and] at e
  omega
theorem MapAt.lt {w : World} {bm N : Nat} {g : Nat → Option Nat} (h : MapAt w bm g N) {i l : Nat} (hi : g i = some l) : i < N := by obtain ⟨D, h⟩ := h; exact h.lt hi
theorem MapAt.bound {w : World} {bm N : Nat} {g : Nat → Option Nat} (h : MapAt w bm g N) : bm < w.heap.size := by obtain ⟨D, h⟩ := h; exact h.own.lt
theorem MapAt.obj {w : World} {bm N : Nat} {g : Nat → Option Nat} (h : MapAt w bm g N) : ∃ es c, w.heap[bm]? = some (.map es c) := by obtain ⟨D, h⟩ := h; obtain ⟨es, c, h1, _⟩ := h.own; exact ⟨es, c, h1⟩

def keysOf (g : Nat → Option Nat) (N : Nat) : List Int := ((List.range N).filter (fun i => (g i).isSome)).map Int.ofNat
theorem keysOf_nodup (g : Nat → Option Nat) (N : Nat) : (keysOf g N).Nodup := by
  refine List.pairwise_map.2 ((List.nodup_range.filter _).imp ?_)
  intro a b h e
  exact h (Int.ofNat.inj e)
theorem keysOf_perm_of {w : World} {bm N n : Nat} {g : Nat → Option Nat} {D : DataW Unit} (ho : w.ownsMap Try.prog 3 ptrR bm n D) (hk : ∀ kl, Maps.has D kl = true → ∃ i : Nat, i < N ∧ kl = .int .i64 i) (hh : ∀ i : Nat, Maps.has D (.int .i64 i) = (g i).isSome) : (keysOf g N).Perm (intKeys D) := by
  obtain ⟨es, rfl, hp, _⟩ := ho.entries law3
  refine perm_intKeys hp (fun p hp' => ?_) (keysOf_nodup g N) (fun x => ?_)
  · have hkl : Maps.has (DataW.map es) p.1 = true := by
      rw [Maps.has_eq, List.any_eq_true]
      obtain ⟨es', e, _, hkey⟩ := ho.entries law3
      cases e
      exact ⟨p, hp', WideAt.sameKey_self (hkey p hp')⟩
    obtain ⟨i, _, e⟩ := hk _ hkl
    exact ⟨i, e⟩
  · constructor
    · intro hx
      obtain ⟨i, hi, rfl⟩ := List.mem_map.1 hx
      have := (List.mem_filter.1 hi).2
      show Maps.has _ (.int .i64 (i : Int)) = true
      rw [hh i]; exact this
    · intro hx
      obtain ⟨i, hi, e⟩ := hk _ hx
      simp only [Lit.int.injEq, true_and] at e
      subst e
      rw [hh i] at hx
      exact List.mem_map.2 ⟨i, List.mem_filter.2 ⟨List.mem_range.2 hi, hx⟩, rfl⟩
theorem size_le_of {w : World} {bm N n : Nat} {g : Nat → Option Nat} {D : DataW Unit} (ho : w.ownsMap Try.prog 3 ptrR bm n D) (hk : ∀ kl, Maps.has D kl = true → ∃ i : Nat, i < N ∧ kl = .int .i64 i) (hh : ∀ i : Nat, Maps.has D (.int .i64 i) = (g i).isSome) : Maps.size D ≤ N ∧ w.ownsMap Try.prog 3 ptrR bm N D := by
  have h1 := (keysOf_perm_of ho hk hh).length_eq
  have h2 : (keysOf g N).length ≤ N := by
    unfold keysOf
    rw [List.length_map]
    exact Nat.le_trans (List.length_filter_le _ _) (by simp)
  obtain ⟨es, c, hb, F, hs, rfl⟩ := ho
  have h3 : Maps.size (DataW.map ((es.toList.map (WideElems.rg Try.prog 3 ptrR)).foldr DataW.insert [])) = es.size := by
    rw [Maps.size_eq, length_sorted]; simp
  have h4 : Maps.size (DataW.map ((es.toList.map (WideElems.rg Try.prog 3 ptrR)).foldr DataW.insert [])) ≤ N := by
    have : (intKeys (DataW.map ((es.toList.map (WideElems.rg Try.prog 3 ptrR)).foldr DataW.insert []))).length = Maps.size (DataW.map ((es.toList.map (WideElems.rg Try.prog 3 ptrR)).foldr DataW.insert [])) := by
      simp [intKeys, Maps.size]
    omega
  exact ⟨h4, es, c, hb, F, by omega, rfl⟩
theorem MapIs.size {w : World} {bm N : Nat} {g : Nat → Option Nat} {D : DataW Unit} (h : MapIs w bm g N D) : Maps.size D ≤ N := (size_le_of h.own h.keys h.have_).1
theorem wf_nat {i : Nat} (h : i ≤ 9223372036854775807) : (Lit.int .i64 (i : Int)).wf = true := WalkArith.wf_i64 (by omega)

theorem MapAt.kept {w w' : World} {bm N : Nat} {g : Nat → Option Nat} (h : MapAt w bm g N) (hb : w'.heap[bm]? = w.heap[bm]?) : MapAt w' bm g N := by
  obtain ⟨D, ⟨es, c, h1, h2⟩, h3, h4, h5⟩ := h
  exact ⟨D, ⟨es, c, hb.trans h1, h2⟩, h3, h4, h5⟩
theorem MapAt.made (w : World) (N : Nat) : MapAt (w.alloc (.map #[] 0)) w.heap.size (fun _ => none) N :=
  ⟨.map [], (World.ownsMap_made w _ _ _).mono (Nat.zero_le _), fun _ => rfl, fun kl h => by simp [Maps.has] at h, fun _ => rfl⟩

/-- A line's look-up. -/
theorem wpList_lookup_map (w : World) {ops : Array Oper} {rest : List Oper} {o : Oper} {a : Act} {Q : Exit → Act → World → Prop}
    (hg : o.guard = none) (m x : Operand) (hop : o.op = Op.lookup 75 m x false) (bm : Nat) (g : Nat → Option Nat) (N : Nat)
    (hm : a.eval m = .map (some bm)) (h : MapAt w bm g N) (i : Nat) (hi : i ≤ 9223372036854775807) (hx : a.eval x = .int .i64 i)
    (hK : wpList Try.prog ops Q rest (a.put o.dst (ptrV (g i))) w) : wpList Try.prog ops Q (o :: rest) a w := by
  refine wpList_plain hg fun K' hK' => ?_
  obtain ⟨D, h⟩ := h
  obtain ⟨v, ps, hrun, hv⟩ := h.own.lookup law3 Try.underlying75 (z := .pointer none) (Try.zeroValue86 _) (zd := ptrD none) (zp := []) rfl (keyOf_int_mk Try.underlying3 (wf_nat hi))
  obtain ⟨o', rfl, e⟩ := ptrR_inv hv
  rw [h.item i] at e
  simp only [Prod.mk.injEq] at e
  rw [ptrD_inj e.1] at hK
  unfold Oper.wp
  simp [execOp, hop, hm, hx, hrun, Result.andThen]
  exact hK' _ _ hK

def laid (g : Nat → Option Nat) (i : Nat) (v : Option Nat) : Nat → Option Nat := fun j => if j = i then v else g j

/-- A line is laid into the map. -/
theorem wpList_mapUpdate_map (w : World) {ops : Array Oper} {rest : List Oper} {o : Oper} {a : Act} {Q : Exit → Act → World → Prop}
    (hg : o.guard = none) (m x v : Operand) (hop : o.op = Op.mapUpdate 75 m x v) (bm : Nat) (g : Nat → Option Nat) (N : Nat)
    (hm : a.eval m = .map (some bm)) (h : MapAt w bm g N) (hN : N ≤ 4096) (i l : Nat) (hi : i < N) (hx : a.eval x = .int .i64 i) (hv : a.eval v = .pointer (some ⟨l, 0, none⟩))
    (hK : ∀ w', MapAt w' bm (laid g i (some l)) N → w.grownBy w' (some bm) → wpList Try.prog ops Q rest (a.put o.dst undef) w') : wpList Try.prog ops Q (o :: rest) a w := by
  obtain ⟨D, h⟩ := h
  refine wpList_mapUpdate_own w hg m x v 75 hop 3 86 law3 Try.underlying75 ptrR bm N D hm h.own (by unfold maxLen; omega) _ _ (.int .i64 i) hx hv (keyOf_int_mk Try.underlying3 (wf_nat (by omega))) (ptrD (some l)) [] rfl (fun w' h1 h2 => hK w' ?_ h2)
  have hkl : WideAt.IsKeyLit (.int .i64 (i : Int)) := law3.key (keyOf_int_mk Try.underlying3 (wf_nat (by omega)))
  have hk : ∀ kl, Maps.has (D.put (.int .i64 i) (ptrD (some l))) kl = true → ∃ j : Nat, j < N ∧ kl = .int .i64 j := by
    intro kl hh
    by_cases e : kl = .int .i64 i
    · exact ⟨i, hi, e⟩
    · rw [has_put_other e] at hh; exact h.keys kl hh
  have hh : ∀ j : Nat, Maps.has (D.put (.int .i64 i) (ptrD (some l))) (.int .i64 j) = (laid g i (some l) j).isSome := by
    intro j
    by_cases e : j = i
    · subst e; rw [has_put_same h.own.isMap hkl]; simp [laid]
    · rw [has_put_other (by simp only [ne_eq, Lit.int.injEq, true_and]; omega), h.have_ j]; simp [laid, e]
  refine ⟨_, (size_le_of h1 hk hh).2, fun j => ?_, hk, hh⟩
  by_cases e : j = i
  · subst e; rw [atKey_put_same h.own.isMap hkl]; simp [laid]
  · rw [atKey_put_other (by simp only [ne_eq, Lit.int.injEq, true_and]; omega), h.item j]; simp [laid, e]

/-- 'clear(m)'. -/
theorem run_clear_map {w : World} {bm N : Nat} {g : Nat → Option Nat} (h : MapAt w bm g N) (ty : TypeId) :
    ∃ w', (Builtin.clear_ #[75] ty #[.map (some bm)]).run Try.prog w = .ok (.tuple #[]) w' ∧ MapAt w' bm (fun _ => none) N ∧ w.grownBy w' (some bm) := by
  obtain ⟨es, c, hb⟩ := h.obj
  have hrun : (Builtin.clear_ #[75] ty #[.map (some bm)]).run Try.prog w = .ok (.tuple #[]) (ChangeMaps.setBlock w bm (.map #[] c)) := by
    simp [Builtin.clear_, run_underlying Try.underlying75, MapKept.run_getObj_map hb, MapKept.run_setObj_map _ hb, Result.andThen, ChangeMaps.setBlock]
  refine ⟨_, hrun, ⟨.map [], ⟨#[], c, ChangeMaps.heap_setBlock_same hb _, ⟨by simp, MapKept.stamped_empty c, by simp⟩, Nat.zero_le _, rfl⟩, fun _ => rfl, fun kl h => by simp [Maps.has] at h, fun _ => rfl⟩, ⟨rfl, rfl, rfl, by simp [ChangeMaps.setBlock], fun i _ hi => ChangeMaps.heap_setBlock_other hb _ (fun e => hi (by rw [e]))⟩⟩
end Go.Proofs.Ytgiippbjieecmaa
/- A range over a map from line numbers to lines, under way. -/
namespace Go.Proofs.Ytgiippbjieecmaa
set_option maxRecDepth 100000
open Go.RowKit Go.Maps

/-- Block r is an iterator over the map at block bm, which holds g's lines; 'left i': is line i still to come? -/
def Rng (w : World) (bm r : Nat) (g : Nat → Option Nat) (N : Nat) (left : Nat → Bool) : Prop :=
  ∃ D lf cnt, w.ranges Try.prog 3 ptrR bm r N D lf cnt ∧ MapIs w bm g N D ∧ (∀ i : Nat, lf (.int .i64 i) = left i) ∧ ∀ kl, lf kl = true → Maps.has D kl = true

theorem Rng.map {w : World} {bm r N : Nat} {g : Nat → Option Nat} {left : Nat → Bool} (h : Rng w bm r g N left) : MapAt w bm g N := by
  obtain ⟨D, _, _, _, h, _⟩ := h; exact ⟨D, h⟩
theorem Rng.ne {w : World} {bm r N : Nat} {g : Nat → Option Nat} {left : Nat → Bool} (h : Rng w bm r g N left) : r ≠ bm := by
  obtain ⟨D, _, _, h, _⟩ := h; exact h.ne
theorem Rng.lt {w : World} {bm r N : Nat} {g : Nat → Option Nat} {left : Nat → Bool} (h : Rng w bm r g N left) : r < w.heap.size := by
  obtain ⟨D, _, _, h, _⟩ := h; exact h.lt
theorem Rng.obj {w : World} {bm r N : Nat} {g : Nat → Option Nat} {left : Nat → Bool} (h : Rng w bm r g N left) : ∃ a b c d, w.heap[r]? = some (.mapIter a b c d) := by
  obtain ⟨D, _, _, ⟨es, clock, since, seen, c0, _, _, _, _, hr, _⟩, _⟩ := h; exact ⟨_, _, _, _, hr⟩
theorem Rng.has {w : World} {bm r N : Nat} {g : Nat → Option Nat} {left : Nat → Bool} (h : Rng w bm r g N left) {i : Nat} (hi : left i = true) : ∃ l, g i = some l := by
  obtain ⟨D, lf, cnt, _, hm, hl, hh⟩ := h
  have h1 := hh (.int .i64 i) (by rw [hl]; exact hi)
  rw [hm.have_ i] at h1
  exact Option.isSome_iff_exists.1 h1
theorem Rng.kept {w w' : World} {bm r N : Nat} {g : Nat → Option Nat} {left : Nat → Bool} (h : Rng w bm r g N left) (hb : w'.heap[bm]? = w.heap[bm]?) (hr : w'.heap[r]? = w.heap[r]?) : Rng w' bm r g N left ∧ w'.rangeLeft bm r = w.rangeLeft bm r := by
  obtain ⟨D, lf, cnt, ⟨es, clock, since, seen, c0, h1, F, hs, hD, h2, rest⟩, ⟨⟨es', c', h3, h4⟩, h5, h6, h7⟩, hl, hh⟩ := h
  refine ⟨⟨D, lf, cnt, ⟨es, clock, since, seen, c0, hb.trans h1, F, hs, hD, hr.trans h2, rest⟩, ⟨⟨es', c', hb.trans h3, h4⟩, h5, h6, h7⟩, hl, hh⟩, ?_⟩
  simp only [World.rangeLeft, hb, hr]

theorem wpList_range_map (w : World) {ops : Array Oper} {rest : List Oper} {o : Oper} {a : Act} {Q : Exit → Act → World → Prop} (hg : o.guard = none) (m : Operand) (hop : o.op = Op.range 75 m) (bm : Nat) (g : Nat → Option Nat) (N : Nat)
    (hm : a.eval m = .map (some bm)) (h : MapAt w bm g N)
    (hK : ∀ w', Rng w' bm w.heap.size g N (fun i => (g i).isSome) → w.grownBy w' none → w'.heap.size = w.heap.size + 1 → wpList Try.prog ops Q rest (a.put o.dst (.pointer (some ⟨w.heap.size, 0, none⟩))) w') :
    wpList Try.prog ops Q (o :: rest) a w := by
  obtain ⟨D, h⟩ := h
  refine wpList_range_own w hg m 75 hop 3 86 law3 Try.underlying75 ptrR bm N D hm h.own (fun w' h1 h2 h3 => hK w' ⟨D, _, _, h1, ⟨h1.owns, h.item, h.keys, h.have_⟩, h.have_, fun _ h => h⟩ h2 h3)

theorem strike_nat (i j : Nat) (lf : Lit → Bool) (left : Nat → Bool) (hl : ∀ i : Nat, lf (.int .i64 i) = left i) (hi : i ≤ 9223372036854775807) :
    (lf (.int .i64 (j : Int)) && !(Lit.int .i64 (j : Int)).sameKey (.int .i64 (i : Int))) = (left j && (j != i)) := by
  rw [hl]
  congr 1
  by_cases e : j = i
  · subst e
    rw [WideAt.sameKey_self (law3.key (keyOf_int_mk Try.underlying3 (wf_nat hi)))]
    simp
  · rw [sameKey_ne (by simp only [ne_eq, Lit.int.injEq, true_and]; omega)]
    simp [e]

/-- The step. -/
theorem wpList_next_map (w : World) {ops : Array Oper} {rest : List Oper} {o : Oper} {a : Act} {Q : Exit → Act → World → Prop} (hg : o.guard = none) (it : Operand) (hop : o.op = Op.next it false) (bm r : Nat) (g : Nat → Option Nat) (N : Nat) (left : Nat → Bool) (hN : N ≤ 4096)
    (hit : a.eval it = .pointer (some ⟨r, 0, none⟩)) (h : Rng w bm r g N left)
    (hDone : (∀ i, left i = false) → wpList Try.prog ops Q rest (a.put o.dst (.tuple #[.bool false])) w)
    (hMore : ∀ (i l : Nat) (w' : World), g i = some l → i < N → left i = true → Rng w' bm r g N (fun j => left j && (j != i)) → w'.rangeLeft bm r < w.rangeLeft bm r → w.grownBy w' (some r) → w'.heap.size = w.heap.size →
      (Instr.entry (.pointer (some ⟨r, 0, none⟩))).run Try.prog w' = .ok (.tuple #[.int .i64 i, .pointer (some ⟨l, 0, none⟩)]) w' → wpList Try.prog ops Q rest (a.put o.dst (.tuple #[.bool true, .int .i64 i, .pointer (some ⟨l, 0, none⟩)])) w') :
    wpList Try.prog ops Q (o :: rest) a w := by
  obtain ⟨D, lf, cnt, hrg, hm, hl, hh⟩ := h
  refine wpList_next_ranges w hg it hop 3 law3 ptrR (Value.int .i64) ptrV (fun key kl hkey => by obtain ⟨x, rfl, _⟩ := Maps.keyOf_int_inv Try.underlying3 hkey; exact ⟨x, rfl⟩) (fun v y hv => by obtain ⟨c, rfl, _⟩ := ptrR_inv hv; exact ⟨c, rfl⟩)
    bm r N D lf cnt hit hrg (fun _ h0 => hDone (fun i => by rw [← hl]; exact h0 _)) (fun x c kl y w' cnt' hkey hlk hv hat hrg1 hlt hgr hsz hen => ?_)
  obtain ⟨x', ex, rfl, hwx⟩ := Maps.keyOf_int_inv Try.underlying3 hkey
  cases ex
  obtain ⟨i, hi, e⟩ := hm.keys _ (hh _ hlk)
  simp only [Lit.int.injEq, true_and] at e
  subst e
  have hs := hm.have_ i
  rw [hh _ hlk] at hs
  obtain ⟨l, hgl⟩ := Option.isSome_iff_exists.1 hs.symm
  obtain ⟨c', ec, ey⟩ := ptrR_inv hv
  have hcc : c = c' := by cases c <;> cases c' <;> simp [ptrV] at ec ⊢; exact ec
  subst hcc
  have h1 := hat (ptrD none)
  rw [hm.item i, ey] at h1
  have h2 := ptrD_inj h1
  rw [hgl] at h2
  subst h2
  refine hMore i l w' hgl hi (by rw [← hl]; exact hlk) ⟨D, _, cnt', hrg1, ⟨hrg1.owns, hm.item, hm.keys, hm.have_⟩, fun j => strike_nat i j lf left hl (by omega), fun kl hk => hh kl (by simp only [Bool.and_eq_true] at hk; exact hk.1)⟩ (by rw [hrg1.left_eq, hrg.left_eq]; exact hlt) hgr hsz hen

theorem wpList_delete_map (w : World) {ops : Array Oper} {rest : List Oper} {o : Oper} {a : Act} {Q : Exit → Act → World → Prop} (hg : o.guard = none) (m x : Operand) (hop : o.op = Op.call { callee := Callee.builtin Builtin.delete, args := #[m, x], argTypes := #[75, 3] })
    (bm r : Nat) (g : Nat → Option Nat) (N : Nat) (left : Nat → Bool) (hm : a.eval m = .map (some bm)) (h : Rng w bm r g N left) (i : Nat) (hi : i ≤ 9223372036854775807) (hx : a.eval x = .int .i64 i)
    (hK : ∀ w', Rng w' bm r (laid g i none) N (fun j => left j && (j != i)) → w'.rangeLeft bm r ≤ w.rangeLeft bm r → w.grownBy w' (some bm) → w'.heap.size = w.heap.size → wpList Try.prog ops Q rest (a.put o.dst (.tuple #[])) w') :
    wpList Try.prog ops Q (o :: rest) a w := by
  obtain ⟨D, lf, cnt, hrg, hmi, hl, hh⟩ := h
  refine wpList_delete_ranges w hg m x 75 3 hop 86 law3 Try.underlying75 ptrR bm r N D lf cnt hm hrg _ _ hx (keyOf_int_mk Try.underlying3 (wf_nat hi)) (fun w' cnt' h1 h2 h3 => ?_)
  have hkl : WideAt.IsKeyLit (.int .i64 (i : Int)) := law3.key (keyOf_int_mk Try.underlying3 (wf_nat hi))
  have hgr : w.grownBy w' (some bm) := by
    obtain ⟨es, c, es', c', hb, rfl⟩ := h3
    exact ⟨rfl, rfl, rfl, by simp [ChangeMaps.setBlock], fun i _ hi => ChangeMaps.heap_setBlock_other hb _ (fun e => hi (by rw [e]))⟩
  have hsz : w'.heap.size = w.heap.size := by
    obtain ⟨es, c, es', c', hb, rfl⟩ := h3
    simp [ChangeMaps.setBlock]
  refine hK w' ⟨_, _, cnt', h1, ⟨h1.owns, fun j => ?_, fun kl hk => ?_, fun j => ?_⟩, fun j => strike_nat i j lf left hl hi, fun kl hk => ?_⟩ (by rw [h1.left_eq, hrg.left_eq]; exact h2) hgr hsz
  · by_cases e : j = i
    · subst e; rw [atKey_del_same]; simp [laid]
    · rw [atKey_del_other (by simp only [ne_eq, Lit.int.injEq, true_and]; omega), hmi.item j]; simp [laid, e]
  · by_cases e : kl = .int .i64 i
    · subst e; rw [has_del_same] at hk; cases hk
    · rw [has_del_other e] at hk; exact hmi.keys kl hk
  · by_cases e : j = i
    · subst e; rw [has_del_same]; simp [laid]
    · rw [has_del_other (by simp only [ne_eq, Lit.int.injEq, true_and]; omega), hmi.have_ j]; simp [laid, e]
  · simp only [Bool.and_eq_true] at hk
    by_cases e : kl = .int .i64 i
    · subst e; rw [WideAt.sameKey_self hkl] at hk; simp at hk
    · rw [has_del_other e]; exact hh kl hk.1
end Go.Proofs.Ytgiippbjieecmaa
/- A device in memory: what it holds, as a datum of the proof's own. -/
namespace Go.Proofs.Ytgiippbjieecmaa
set_option maxRecDepth 100000
open Go.RowKit Go.Maps

/-- n lines; what is seen; of each dirty line what lasts of it, and whether it is flushed. -/
structure St where
  n : Nat
  seen : List Int
  lin : Nat → Option (List Int × Bool)
  armed : Int
  down : Bool

structure St.Ok (S : St) : Prop where
  len : S.seen.length = 64 * S.n
  n0 : 1 ≤ S.n
  n1 : S.n ≤ 4096
  a0 : 0 ≤ S.armed
  a1 : S.armed ≤ 9223372036854775807
  byt : Bytes S.seen
  lin : ∀ i zs fl, S.lin i = some (zs, fl) → i < S.n ∧ zs.length = 64 ∧ Bytes zs

def devObj (sb n sc bm : Nat) (armed : Int) (down : Bool) : Obj := .cells #[.slice (some ⟨sb, 0, none⟩) n sc, .map (some bm), .int .i64 armed, .bool down] 77 (0, 0)
def linObj (xb xc : Nat) (fl : Bool) : Obj := .cells #[.slice (some ⟨xb, 0, none⟩) 64 xc, .bool fl] 88 (0, 0)

structure DevAt (w : World) (F : Nat → Prop) (p : Nat) (S : St) (sb sc bm : Nat) (g : Nat → Option Nat) : Prop where
  ok : S.Ok
  obj : w.heap[p]? = some (devObj sb S.seen.length sc bm S.armed S.down)
  fp : F p
  fs : F sb
  fm : F bm
  seen : Own .u8 5 0 w (some ⟨sb, 0, none⟩) S.seen.length sc S.seen
  map : MapAt w bm g S.n
  lines : ∀ i l, g i = some l → ∃ xb xc zs fl, S.lin i = some (zs, fl) ∧ F l ∧ F xb ∧ xb ≠ sb ∧ w.heap[l]? = some (linObj xb xc fl) ∧ Own .u8 5 0 w (some ⟨xb, 0, none⟩) 64 xc zs
  void : ∀ i, g i = none → S.lin i = none
  inj : ∀ i j l, g i = some l → g j = some l → i = j
  bound : ∀ k, F k → k < w.heap.size

def Dev (w : World) (F : Nat → Prop) (p : Nat) (S : St) : Prop := ∃ sb sc bm g, DevAt w F p S sb sc bm g

theorem DevAt.sb_ne {w : World} {F : Nat → Prop} {p : Nat} {S : St} {sb sc bm : Nat} {g : Nat → Option Nat} (h : DevAt w F p S sb sc bm g) : sb ≠ p := by
  intro e; obtain ⟨cur, hc, _⟩ := h.seen.block; rw [e, h.obj] at hc; simp [devObj] at hc
theorem DevAt.bm_ne {w : World} {F : Nat → Prop} {p : Nat} {S : St} {sb sc bm : Nat} {g : Nat → Option Nat} (h : DevAt w F p S sb sc bm g) : bm ≠ p ∧ bm ≠ sb := by
  obtain ⟨es, c, hm⟩ := h.map.obj
  constructor
  · intro e; rw [e, h.obj] at hm; simp [devObj] at hm
  · intro e; obtain ⟨cur, hc, _⟩ := h.seen.block; rw [e, hc] at hm; simp at hm
theorem lin_ne_dev {w : World} {l p sb n sc bm xb xc : Nat} {fl dn : Bool} {ar : Int} (h : w.heap[l]? = some (linObj xb xc fl)) (k : w.heap[p]? = some (devObj sb n sc bm ar dn)) : l ≠ p := by
  intro e; rw [e, k] at h; simp [devObj, linObj] at h
theorem lin_ne_own {w : World} {l xb xc : Nat} {fl : Bool} (h : w.heap[l]? = some (linObj xb xc fl)) {g n cap : Nat} {zs : List Int} (k : Own .u8 5 0 w (some ⟨g, 0, none⟩) n cap zs) : l ≠ g := by
  intro e; obtain ⟨cur, hc, _⟩ := k.block; rw [e, hc] at h; simp [linObj] at h
theorem lin_ne_map {w : World} {l xb xc bm N : Nat} {fl : Bool} {g : Nat → Option Nat} (h : w.heap[l]? = some (linObj xb xc fl)) (k : MapAt w bm g N) : l ≠ bm := by
  intro e; obtain ⟨es, c, hm⟩ := k.obj; rw [e, hm] at h; simp [linObj] at h

theorem own_same {k : IntKind} {e : TypeId} {B : Nat} {w w' : World} {g n cap : Nat} {zs : List Int} (h : Own k e B w (some ⟨g, 0, none⟩) n cap zs) (hb : w'.heap[g]? = w.heap[g]?) : Own k e B w' (some ⟨g, 0, none⟩) n cap zs := by
  refine ⟨h.len, h.row.1, ?_⟩
  rcases h.row.2 with hn | ⟨g', cap', cur, hv, hg, hh, r⟩
  · exact Or.inl hn
  · have e1 : g = g' := by simp only [Value.slice.injEq, Option.some.injEq, Addr.mk.injEq, and_true] at hv; exact hv.1
    subst e1
    exact Or.inr ⟨g, cap', cur, hv, hg, hb.trans hh, r⟩

/-- Another world, in which all of the device's blocks are the same. -/
theorem DevAt.same {w w' : World} {F : Nat → Prop} {p : Nat} {S : St} {sb sc bm : Nat} {g : Nat → Option Nat} (h : DevAt w F p S sb sc bm g) (hs : w.heap.size ≤ w'.heap.size) (hb : ∀ k, F k → w'.heap[k]? = w.heap[k]?) : DevAt w' F p S sb sc bm g := by
  refine ⟨h.ok, (hb p h.fp).trans h.obj, h.fp, h.fs, h.fm, own_same h.seen (hb sb h.fs), h.map.kept (hb bm h.fm), fun i l hi => ?_, h.void, h.inj, fun k hk => Nat.lt_of_lt_of_le (h.bound k hk) hs⟩
  obtain ⟨xb, xc, zs, fl, h1, h2, h3, h4, h5, h6⟩ := h.lines i l hi
  exact ⟨xb, xc, zs, fl, h1, h2, h3, h4, (hb l h2).trans h5, own_same h6 (hb xb h3)⟩
theorem Dev.off {w w' : World} {F G : Nat → Prop} {p : Nat} {S : St} (h : Dev w F p S) (ho : Off G w w') (hd : ∀ k, F k → ¬ G k) : Dev w' F p S := by
  obtain ⟨sb, sc, bm, g, h⟩ := h
  exact ⟨sb, sc, bm, g, h.same ho.size (fun k hk => ho.block k (h.bound k hk) (hd k hk))⟩
theorem Dev.below {w w' : World} {F : Nat → Prop} {p : Nat} {S : St} (h : Dev w F p S) (hb : Below w.heap.size w w') : Dev w' F p S := h.off (G := fun _ => False) (Off.of_below hb) (fun _ _ h => h)
theorem Dev.bound {w : World} {F : Nat → Prop} {p : Nat} {S : St} (h : Dev w F p S) : ∀ k, F k → k < w.heap.size := by obtain ⟨sb, sc, bm, g, h⟩ := h; exact h.bound
theorem Dev.ok {w : World} {F : Nat → Prop} {p : Nat} {S : St} (h : Dev w F p S) : S.Ok := by obtain ⟨sb, sc, bm, g, h⟩ := h; exact h.ok

/-- Only the device's own block has turned: other armed, down. -/
theorem DevAt.turned {w w' : World} {F : Nat → Prop} {p : Nat} {S : St} {sb sc bm : Nat} {g : Nat → Option Nat} (h : DevAt w F p S sb sc bm g) (hg : w.grownBy w' (some p)) (ar : Int) (dn : Bool) (h0 : 0 ≤ ar) (h1 : ar ≤ 9223372036854775807)
    (ho : w'.heap[p]? = some (devObj sb S.seen.length sc bm ar dn)) : DevAt w' F p { S with armed := ar, down := dn } sb sc bm g := by
  have hb : ∀ k, F k → k ≠ p → w'.heap[k]? = w.heap[k]? := fun k hk hn => hg.block k (h.bound k hk) (by simpa using hn)
  refine ⟨⟨h.ok.len, h.ok.n0, h.ok.n1, h0, h1, h.ok.byt, h.ok.lin⟩, ho, h.fp, h.fs, h.fm, own_same h.seen (hb sb h.fs h.sb_ne), h.map.kept (hb bm h.fm h.bm_ne.1), fun i l hi => ?_, h.void, h.inj, fun k hk => Nat.lt_of_lt_of_le (h.bound k hk) hg.size⟩
  obtain ⟨xb, xc, zs, fl, e1, e2, e3, e4, e5, e6⟩ := h.lines i l hi
  have hx : xb ≠ p := by intro e; obtain ⟨cur, hc, _⟩ := e6.block; rw [e, h.obj] at hc; simp [devObj] at hc
  exact ⟨xb, xc, zs, fl, e1, e2, e3, e4, (hb l e2 (lin_ne_dev e5 h.obj)).trans e5, own_same e6 (hb xb e3 hx)⟩

/-- A cell of a block is written. -/
theorem setCell_obj {w : World} {p : Nat} {c : Array Value} {T : TypeId} {f : Nat × Nat} (h : w.heap[p]? = some (.cells c T f)) (i : Nat) (v : Value) :
    (w.setCell ⟨p, i, none⟩ v).heap[p]? = some (.cells (c.setIfInBounds i v) T f) ∧ w.grownBy (w.setCell ⟨p, i, none⟩ v) (some p) ∧ (w.setCell ⟨p, i, none⟩ v).heap.size = w.heap.size := by
  have hlt := (Array.getElem?_eq_some_iff.1 h).1
  refine ⟨?_, ⟨rfl, rfl, rfl, by simp [World.setCell], fun k hk hn => ?_⟩, by simp [World.setCell]⟩
  · simp [World.setCell, Array.getElem?_modify, h]
  · have : p ≠ k := fun e => hn (by rw [e])
    simp [World.setCell, Array.getElem?_modify, this]

theorem dev_cells {w : World} {p sb n sc bm : Nat} {ar : Int} {dn : Bool} (h : w.heap[p]? = some (devObj sb n sc bm ar dn)) :
    w.cell? ⟨p, 0, none⟩ = some (.slice (some ⟨sb, 0, none⟩) n sc) ∧ w.cell? ⟨p, 1, none⟩ = some (.map (some bm)) ∧ w.cell? ⟨p, 2, none⟩ = some (.int .i64 ar) ∧ w.cell? ⟨p, 3, none⟩ = some (.bool dn) := by
  simp [World.cell?, h, devObj]
theorem dev_frozen {w : World} {p sb n sc bm : Nat} {ar : Int} {dn : Bool} (h : w.heap[p]? = some (devObj sb n sc bm ar dn)) (i : Nat) : w.frozen? ⟨p, i, none⟩ = false := by
  simp [World.frozen?, h, devObj]
theorem lin_cells {w : World} {l xb xc : Nat} {fl : Bool} (h : w.heap[l]? = some (linObj xb xc fl)) :
    w.cell? ⟨l, 0, none⟩ = some (.slice (some ⟨xb, 0, none⟩) 64 xc) ∧ w.cell? ⟨l, 1, none⟩ = some (.bool fl) ∧ w.frozen? ⟨l, 1, none⟩ = false := by
  simp [World.cell?, World.frozen?, h, linObj]

/-- What a call on n bytes from at on is told. -/
def checkE (S : St) (at_ n : Int) : Int := if S.down = true then 5 else if at_ < 0 ∨ n < 0 ∨ n > S.seen.length - at_ then 1 else 0
def stepE (S : St) (at_ n : Int) : Int := if checkE S at_ n ≠ 0 then checkE S at_ n else if S.armed = 1 then 5 else 0
def stepS (S : St) (at_ n : Int) : St := if checkE S at_ n ≠ 0 ∨ S.armed = 0 then S else { S with armed := S.armed - 1, down := decide (S.armed = 1) }

theorem check_any {w : World} {F : Nat → Prop} {p : Nat} {S : St} (hd : Dev w F p S) (at_ n : Int) (ha : -9223372036854775808 ≤ at_ ∧ at_ ≤ 9223372036854775807) (hn : -9223372036854775808 ≤ n ∧ n ≤ 9223372036854775807) :
    Calls Try.prog 95 #[.pointer (some ⟨p, 0, none⟩), .int .i64 at_, .int .i64 n] w fun e w' => e = .returned (.int .i64 (checkE S at_ n)) ∧ w = w' := by
  obtain ⟨sb, sc, bm, g, hd⟩ := hd
  obtain ⟨c0, c1, c2, c3⟩ := dev_cells hd.obj
  have hl := hd.ok.len
  have hn1 := hd.ok.n1
  obtain ⟨L, hL⟩ : ∃ L, L = S.seen.length := ⟨_, rfl⟩
  rw [← hL] at c0 hl
  have hE : checkE S at_ n = if S.down = true then 5 else if at_ < 0 ∨ n < 0 ∨ n > (L : Int) - at_ then 1 else 0 := by rw [hL]; rfl
  rw [hE]
  clear hE
  cases hdn : S.down
  · rw [hdn] at c3
    by_cases h1 : at_ < 0
    · go_enter Try.func95, Try.ntmps95
      go_wp2
      go_ret
      simp
    · by_cases h2 : n < 0
      · go_enter Try.func95, Try.ntmps95
        go_wp2
        go_ret
        simp
      · by_cases h3 : n > (L : Int) - at_
        · go_enter Try.func95, Try.ntmps95
          go_wp2
          go_ret
          simp
        · go_enter Try.func95, Try.ntmps95
          go_wp2
          go_ret
          simp
  · rw [hdn] at c3
    go_enter Try.func95, Try.ntmps95
    go_wp2
    go_ret
    simp

theorem DevAt.stored {w : World} {F : Nat → Prop} {p : Nat} {S : St} {sb sc bm : Nat} {g : Nat → Option Nat} (h : DevAt w F p S sb sc bm g) (ar : Int) (h0 : 0 ≤ ar) (h1 : ar ≤ 9223372036854775807) : DevAt (w.setCell ⟨p, 2, none⟩ (.int .i64 ar)) F p { S with armed := ar } sb sc bm g ∧ w.grownBy (w.setCell ⟨p, 2, none⟩ (.int .i64 ar)) (some p) ∧ (w.setCell ⟨p, 2, none⟩ (.int .i64 ar)).heap.size = w.heap.size := by
  obtain ⟨e1, e2, e3⟩ := setCell_obj h.obj 2 (.int .i64 ar)
  exact ⟨h.turned e2 ar S.down h0 h1 (by rw [e1]; simp [devObj]), e2, e3⟩
theorem DevAt.downed {w : World} {F : Nat → Prop} {p : Nat} {S : St} {sb sc bm : Nat} {g : Nat → Option Nat} (h : DevAt w F p S sb sc bm g) (dn : Bool) : DevAt (w.setCell ⟨p, 3, none⟩ (.bool dn)) F p { S with down := dn } sb sc bm g ∧ w.grownBy (w.setCell ⟨p, 3, none⟩ (.bool dn)) (some p) ∧ (w.setCell ⟨p, 3, none⟩ (.bool dn)).heap.size = w.heap.size := by
  obtain ⟨e1, e2, e3⟩ := setCell_obj h.obj 3 (.bool dn)
  exact ⟨h.turned e2 S.armed dn h.ok.a0 h.ok.a1 (by rw [e1]; simp [devObj]), e2, e3⟩

theorem step_at {w : World} {F : Nat → Prop} {p : Nat} {S : St} {sb sc bm : Nat} {g : Nat → Option Nat} (hd : DevAt w F p S sb sc bm g) (at_ n : Int) (ha : -9223372036854775808 ≤ at_ ∧ at_ ≤ 9223372036854775807) (hn : -9223372036854775808 ≤ n ∧ n ≤ 9223372036854775807) :
    Calls Try.prog 88 #[.pointer (some ⟨p, 0, none⟩), .int .i64 at_, .int .i64 n] w fun e w' => e = .returned (.int .i64 (stepE S at_ n)) ∧ DevAt w' F p (stepS S at_ n) sb sc bm g ∧ w.grownBy w' (some p) ∧ w'.heap.size = w.heap.size := by
  obtain ⟨c0, c1, c2, c3⟩ := dev_cells hd.obj
  have f2 := dev_frozen hd.obj 2
  have f3 := dev_frozen hd.obj 3
  have hc := check_any ⟨sb, sc, bm, g, hd⟩ at_ n ha hn
  have a0 := hd.ok.a0
  have a1 := hd.ok.a1
  obtain ⟨E, hE⟩ : ∃ E, E = checkE S at_ n := ⟨_, rfl⟩
  have eE : stepE S at_ n = if E ≠ 0 then E else if S.armed = 1 then 5 else 0 := by rw [hE]; rfl
  have eS : stepS S at_ n = if E ≠ 0 ∨ S.armed = 0 then S else { S with armed := S.armed - 1, down := decide (S.armed = 1) } := by rw [hE]; rfl
  have hdn : E = 0 → S.down = false := by
    intro h
    rw [hE] at h
    unfold checkE at h
    cases hh : S.down
    · rfl
    · rw [if_pos hh] at h; omega
  rw [← hE] at hc
  clear hE
  by_cases h1 : E ≠ 0
  · rw [eE, eS, if_pos h1, if_pos (Or.inl h1)]
    clear eE eS hdn
    go_enter Try.func88, Try.ntmps88
    go_wp2_with (go_at_call 95; with_reducible refine hc.mono ?_; rintro e w' ⟨rfl, rfl⟩)
    go_ret
    exact ⟨rfl, hd, World.grownBy.refl _ _, rfl⟩
  · obtain rfl : E = 0 := by omega
    have hdn := hdn rfl
    by_cases h2 : S.armed = 0
    · have e1 : stepE S at_ n = 0 := by rw [eE]; simp [h2]
      have e2 : stepS S at_ n = S := by rw [eS]; simp [h2]
      rw [e1, e2]
      clear eE eS e1 e2
      rw [h2] at c2
      clear h2
      go_enter Try.func88, Try.ntmps88
      go_wp2_with (go_at_call 95; with_reducible refine hc.mono ?_; rintro e w' ⟨rfl, rfl⟩)
      go_ret
      exact ⟨rfl, hd, World.grownBy.refl _ _, rfl⟩
    · by_cases h3 : S.armed = 1
      · obtain ⟨d1, g1, s1⟩ := hd.stored 0 (by omega) (by omega)
        obtain ⟨d2, g2, s2⟩ := d1.downed true
        have e1 : stepE S at_ n = 5 := by rw [eE]; simp [h3]
        have e2 : stepS S at_ n = { S with armed := 0, down := true } := by rw [eS]; simp [h3]
        rw [e1, e2]
        rw [h3] at c2
        clear h1 h2 h3 a0 a1 eE eS e1 e2 hdn
        go_enter Try.func88, Try.ntmps88
        go_wp2_with (go_at_call 95; with_reducible refine hc.mono ?_; rintro e w' ⟨rfl, rfl⟩)
        go_ret
        exact ⟨rfl, d2, grown_trans g1 g2, s2.trans s1⟩
      · obtain ⟨d1, g1, s1⟩ := hd.stored (S.armed - 1) (by omega) (by omega)
        have e1 : stepE S at_ n = 0 := by rw [eE]; simp [h3]
        have e2 : stepS S at_ n = { S with armed := S.armed - 1 } := by rw [eS]; simp [h2, h3, hdn]
        rw [e1, e2]
        clear eE eS e1 e2 hdn
        obtain ⟨A, hA⟩ : ∃ A, A = S.armed := ⟨_, rfl⟩
        rw [← hA] at c2 a0 a1 h2 h3 d1 g1 s1 ⊢
        clear hA
        go_enter Try.func88, Try.ntmps88
        go_wp2_with (go_at_call 95; with_reducible refine hc.mono ?_; rintro e w' ⟨rfl, rfl⟩)
        go_ret
        exact ⟨rfl, d1, g1, s1⟩
end Go.Proofs.Ytgiippbjieecmaa
/- pmem's New, Lines, View, Down, Arm, Load, linesOf by their contracts. -/
namespace Go.Proofs.Ytgiippbjieecmaa
set_option maxRecDepth 100000
open Go.RowKit Go.Maps

def St.new (zs : List Int) : St := ⟨zs.length / 64, zs, fun _ => none, 0, false⟩
theorem St.new_ok {zs : List Int} (h0 : zs.length ≠ 0) (h1 : zs.length % 64 = 0) (h2 : zs.length / 64 ≤ 4096) (hb : Bytes zs) : (St.new zs).Ok :=
  ⟨by show zs.length = 64 * (zs.length / 64); omega, by show 1 ≤ zs.length / 64; omega, h2, by simp [St.new], by simp [St.new], hb, fun i zs fl h => by simp [St.new] at h⟩
def newOk (n : Nat) : Bool := decide (n ≠ 0 ∧ n % 64 = 0 ∧ n / 64 ≤ 4096)

theorem new_bad (ao : Option Addr) (n cap : Nat) (w : World) (hn : n ≤ 9223372036854775807) (hb : newOk n = false) :
    Calls Try.prog 23 #[.slice ao n cap] w fun e w' => e = .returned (.tuple #[.pointer none, .int .i64 1]) ∧ w = w' := by
  have hb' : ¬ (n ≠ 0 ∧ n % 64 = 0 ∧ n / 64 ≤ 4096) := by simpa [newOk] using hb
  clear hb
  by_cases h0 : n = 0
  · subst h0
    go_enter Try.func23, Try.ntmps23
    go_wp2
    go_ret2
    exact ⟨rfl, rfl⟩
  · by_cases h1 : n % 64 = 0
    · have h2 : 4096 < n / 64 := by omega
      clear hb'
      go_enter Try.func23, Try.ntmps23
      go_wp2
      go_ret2
      exact ⟨rfl, rfl⟩
    · clear hb'
      go_enter Try.func23, Try.ntmps23
      go_wp2
      go_ret2
      exact ⟨rfl, rfl⟩

theorem new_dev {w w1 : World} {sb n sc : Nat} {zs : List Int} (hown : Own .u8 5 w.heap.size w1 (some ⟨sb, 0, none⟩) n sc zs) (hbel : Below w.heap.size w w1) (hok : (St.new zs).Ok) :
    Dev ((w1.alloc (.map #[] 0)).alloc (.cells #[.slice (some ⟨sb, 0, none⟩) n sc, .map (some w1.heap.size), .int .i64 0, .bool false] 77)) (fun k => k = w1.heap.size + 1 ∨ k = sb ∨ k = w1.heap.size) (w1.heap.size + 1) (St.new zs) ∧
    (∀ k, (k = w1.heap.size + 1 ∨ k = sb ∨ k = w1.heap.size) → w.heap.size ≤ k) ∧ Below w.heap.size w ((w1.alloc (.map #[] 0)).alloc (.cells #[.slice (some ⟨sb, 0, none⟩) n sc, .map (some w1.heap.size), .int .i64 0, .bool false] 77)) := by
  have hs := hbel.size
  obtain ⟨cur, hc, _⟩ := hown.block
  have hsb : sb < w1.heap.size := (Array.getElem?_eq_some_iff.1 hc).1
  have hsb0 : w.heap.size ≤ sb := by
    rcases hown.row.2 with ⟨hv, _⟩ | ⟨g', cap', cur, hv, hg, _⟩
    · simp at hv
    · simp only [Value.slice.injEq, Option.some.injEq, Addr.mk.injEq, and_true] at hv
      rw [hv.1]; exact hg
  have b1 : Below w1.heap.size w1 (w1.alloc (.map #[] 0)) := (Below.refl _ _).alloc (Nat.le_refl _) _
  have s1 : (w1.alloc (.map #[] 0)).heap.size = w1.heap.size + 1 := by simp
  have b2 : Below (w1.alloc (.map #[] 0)).heap.size (w1.alloc (.map #[] 0)) ((w1.alloc (.map #[] 0)).alloc (.cells #[.slice (some ⟨sb, 0, none⟩) n sc, .map (some w1.heap.size), .int .i64 0, .bool false] 77)) := (Below.refl _ _).alloc (Nat.le_refl _) _
  have hl : zs.length = n := hown.len
  have b12 := next b1 b2
  refine ⟨⟨sb, sc, w1.heap.size, fun _ => none, hok, ?_, Or.inl rfl, Or.inr (Or.inl rfl), Or.inr (Or.inr rfl), ?_, ?_, fun i l h => (by cases h), fun _ _ => rfl, fun i j l h => (by cases h), ?_⟩, ?_, ?_⟩
  · rw [show w1.heap.size + 1 = (w1.alloc (.map #[] 0)).heap.size from s1.symm, (MapKept.heap_alloc _ _).1]
    show some (Obj.cells _ 77 (0, 0)) = some (Obj.cells _ 77 (0, 0))
    rw [← hl]; rfl
  · have := hown.below b12
    rw [show (St.new zs).seen.length = n from hl]
    exact this.mono (Nat.zero_le _)
  · exact (MapAt.made w1 _).kept (b2.block _ (by omega))
  · rintro k (rfl | rfl | rfl) <;> simp <;> omega
  · rintro k (rfl | rfl | rfl) <;> omega
  · exact next hbel b12

theorem new_good (ao : Option Addr) (n cap : Nat) (zs : List Int) (w : World) (hsl : Sl .u8 w ao n cap zs) (hby : Bytes zs) (hb : newOk n = true) :
    Calls Try.prog 23 #[.slice ao n cap] w fun e w' => ∃ p F, e = .returned (.tuple #[.pointer (some ⟨p, 0, none⟩), .int .i64 0]) ∧ Dev w' F p (St.new zs) ∧ (∀ k, F k → w.heap.size ≤ k) ∧ Below w.heap.size w w' := by
  have hb' : n ≠ 0 ∧ n % 64 = 0 ∧ n / 64 ≤ 4096 := by simpa [newOk] using hb
  obtain ⟨h0, h1, h2⟩ := hb'
  have hlen := hsl.len
  have hcl := clone_any ao n cap zs w hsl (by omega) (by omega)
  have hmm := @run_makeMap Try.prog
  have hok : (St.new zs).Ok := St.new_ok (by omega) (by omega) (by omega) hby
  have b0 : ((n : Int) == 0) = false := by simp; omega
  have b1 : decide (4096 < (n : Int) / 64) = false := by simp; omega
  have b2 : (n : Int) % 64 = 0 := by omega
  have hn : n ≤ 262144 := by omega
  clear hb h0 h1 h2 hlen hsl
  go_enter Try.func23, Try.ntmps23
  go_wp2_with (go_at_call 48; with_reducible refine hcl.mono ?_; rintro e w1 ⟨sb, sc, rfl, hown, hbel⟩)
  go_ret2
  obtain ⟨r1, r2, r3⟩ := new_dev hown hbel hok
  exact ⟨_, _, rfl, r1, r2, r3⟩

theorem view_any {w : World} {F : Nat → Prop} {p : Nat} {S : St} (hd : Dev w F p S) :
    Calls Try.prog 61 #[.pointer (some ⟨p, 0, none⟩)] w fun e w' => ∃ g c, e = .returned (.slice (some ⟨g, 0, none⟩) S.seen.length c) ∧ Own .u8 5 w.heap.size w' (some ⟨g, 0, none⟩) S.seen.length c S.seen ∧ Below w.heap.size w w' := by
  obtain ⟨sb, sc, bm, g, hd⟩ := hd
  obtain ⟨c0, c1, c2, c3⟩ := dev_cells hd.obj
  have hl := hd.ok.len
  have hn0 := hd.ok.n0
  have hn1 := hd.ok.n1
  have hcl := clone_any _ _ _ _ w hd.seen.sl (by omega) (by omega)
  clear hl hn0 hn1
  go_enter Try.func61, Try.ntmps61
  go_wp2_with (go_at_call 48; with_reducible refine hcl.mono ?_; rintro e w1 ⟨gb, gc, rfl, hown, hbel⟩)
  go_ret
  exact ⟨gb, gc, rfl, hown, hbel⟩

theorem down_any {w : World} {F : Nat → Prop} {p : Nat} {S : St} (hd : Dev w F p S) :
    Calls Try.prog 60 #[.pointer (some ⟨p, 0, none⟩)] w fun e w' => e = .returned (.bool S.down) ∧ w = w' := by
  obtain ⟨sb, sc, bm, g, hd⟩ := hd
  obtain ⟨c0, c1, c2, c3⟩ := dev_cells hd.obj
  go_enter Try.func60, Try.ntmps60
  go_wp2
  go_ret
  exact ⟨rfl, rfl⟩

theorem lines_any {w : World} {F : Nat → Prop} {p : Nat} {S : St} (hd : Dev w F p S) :
    Calls Try.prog 49 #[.pointer (some ⟨p, 0, none⟩)] w fun e w' => e = .returned (.int .i64 S.n) ∧ w = w' := by
  obtain ⟨sb, sc, bm, g, hd⟩ := hd
  obtain ⟨c0, c1, c2, c3⟩ := dev_cells hd.obj
  have hl := hd.ok.len
  have hn1 := hd.ok.n1
  rw [hl] at c0
  obtain ⟨K, hK⟩ : ∃ K, K = S.n := ⟨_, rfl⟩
  rw [← hK] at c0 hn1 ⊢
  clear hl hK
  go_enter Try.func49, Try.ntmps49
  go_wp2
  go_ret
  exact ⟨rfl, rfl⟩

theorem arm_any {w : World} {F : Nat → Prop} {p : Nat} {S : St} (hd : Dev w F p S) (n : Int) (hn : -9223372036854775808 ≤ n ∧ n ≤ 9223372036854775807) :
    Calls Try.prog 24 #[.pointer (some ⟨p, 0, none⟩), .int .i64 n] w fun e w' => e = .returned (.tuple #[]) ∧ Dev w' F p { S with armed := max n 0 } ∧ Goes F w F w' ∧ w'.heap.size = w.heap.size := by
  obtain ⟨sb, sc, bm, g, hd⟩ := hd
  obtain ⟨c0, c1, c2, c3⟩ := dev_cells hd.obj
  have f2 := dev_frozen hd.obj 2
  obtain ⟨d1, g1, s1⟩ := hd.stored (max n 0) (by omega) (by omega)
  go_enter Try.func24, Try.ntmps24
  go_wp2
  go_end0
  exact ⟨rfl, ⟨sb, sc, bm, g, d1⟩, ⟨Off.of_grown g1 (fun j hj => by cases hj; exact Or.inl hd.fp), fun _ h => Or.inl h⟩, s1⟩

def lineA (at_ n : Nat) : Nat := if n = 0 then 0 else at_ / 64
def lineB (at_ n : Nat) : Nat := if n = 0 then 0 else (at_ + n - 1) / 64 + 1
theorem linesOf_any (at_ n : Nat) (w : World) (h : at_ + n ≤ 262144) :
    Calls Try.prog 93 #[.int .i64 at_, .int .i64 n] w fun e w' => e = .returned (.tuple #[.int .i64 (lineA at_ n), .int .i64 (lineB at_ n)]) ∧ w = w' := by
  by_cases hn : n = 0
  · subst hn
    go_enter Try.func93, Try.ntmps93
    go_wp2
    go_ret2
    exact ⟨rfl, rfl⟩
  · have e1 : lineA at_ n = at_ / 64 := by simp [lineA, hn]
    have e2 : lineB at_ n = (at_ + n - 1) / 64 + 1 := by simp [lineB, hn]
    rw [e1, e2]
    clear e1 e2
    go_enter Try.func93, Try.ntmps93
    go_wp2
    go_ret2
    refine ⟨?_, rfl⟩
    have e3 : ((at_ : Int) + n - 1) / 64 + 1 = (((at_ + n - 1) / 64 + 1 : Nat) : Int) := by omega
    rw [← e3]
    rfl

theorem Sl.rowpart {k : IntKind} {w : World} {b n cap : Nat} {zs : List Int} (h : Sl k w (some ⟨b, 0, none⟩) n cap zs) (i m : Nat) (hij : i + m ≤ n) :
    Sl k w (if cap = i then some ⟨b, 0, none⟩ else some ⟨b, i, none⟩) m (cap - i) ((zs.drop i).take m) := by
  have h1 := h.sliced i (i + m) (by omega) hij
  rw [show i + m - i = m by omega] at h1
  have e1 : (if cap = i then some (⟨b, 0, none⟩ : Addr) else (some (⟨b, 0, none⟩ : Addr)).map (·.add (i * 1))) = (if cap = i then some ⟨b, 0, none⟩ else some ⟨b, i, none⟩) := by
    simp [Addr.add_lit]
  rw [e1] at h1
  exact h1

theorem checkE_zero {S : St} {at_ n : Int} (h : checkE S at_ n = 0) : S.down = false ∧ 0 ≤ at_ ∧ 0 ≤ n ∧ n ≤ S.seen.length - at_ := by
  unfold checkE at h
  cases hd : S.down
  · rw [if_neg (by simp [hd])] at h
    by_cases hh : at_ < 0 ∨ n < 0 ∨ n > S.seen.length - at_
    · rw [if_pos hh] at h; omega
    · exact ⟨rfl, by omega, by omega, by omega⟩
  · rw [if_pos hd] at h; omega

end Go.Proofs.Ytgiippbjieecmaa
/- pmem's soil by its contract. -/
namespace Go.Proofs.Ytgiippbjieecmaa
set_option maxRecDepth 100000
open Go.RowKit Go.Maps

def lineAt (zs : List Int) (i : Nat) : List Int := (zs.drop (64 * i)).take 64
def setLin (S : St) (i : Nat) (v : Option (List Int × Bool)) : St := { S with lin := fun j => if j = i then v else S.lin j }
def soilL (S : St) (i : Nat) : List Int × Bool :=
  match S.lin i with
  | none => (lineAt S.seen i, false)
  | some (zs, _) => (zs, false)
def soilS (S : St) (i : Nat) : St := setLin S i (some (soilL S i))

theorem lineAt_len {S : St} (hok : S.Ok) {i : Nat} (hi : i < S.n) : (lineAt S.seen i).length = 64 := by
  have := hok.len
  simp [lineAt]; omega
theorem bytes_sub {zs : List Int} (h : Bytes zs) (i m : Nat) : Bytes ((zs.drop i).take m) := fun z hz => h z (List.mem_of_mem_drop (List.mem_of_mem_take hz))
theorem setLin_ok {S : St} (hok : S.Ok) {i : Nat} {zs : List Int} {fl : Bool} (hi : i < S.n) (hl : zs.length = 64) (hb : Bytes zs) : (setLin S i (some (zs, fl))).Ok := by
  refine ⟨hok.len, hok.n0, hok.n1, hok.a0, hok.a1, hok.byt, fun j zs' fl' h => ?_⟩
  by_cases e : j = i
  · subst e
    simp [setLin] at h
    obtain ⟨rfl, rfl⟩ := h
    exact ⟨hi, hl, hb⟩
  · simp [setLin, e] at h
    exact hok.lin j zs' fl' h

/-- A line's flag is set. -/
theorem DevAt.flag {w : World} {F : Nat → Prop} {p : Nat} {S : St} {sb sc bm : Nat} {g : Nat → Option Nat} (h : DevAt w F p S sb sc bm g) {i l : Nat} (hi : g i = some l) (b : Bool) : ∃ zs fl, S.lin i = some (zs, fl) ∧
    DevAt (w.setCell ⟨l, 1, none⟩ (.bool b)) F p (setLin S i (some (zs, b))) sb sc bm g ∧ w.grownBy (w.setCell ⟨l, 1, none⟩ (.bool b)) (some l) ∧ (w.setCell ⟨l, 1, none⟩ (.bool b)).heap.size = w.heap.size ∧ F l := by
  obtain ⟨xb, xc, zs, fl, e1, e2, e3, e4, e5, e6⟩ := h.lines i l hi
  obtain ⟨s1, s2, s3⟩ := setCell_obj e5 1 (.bool b)
  refine ⟨zs, fl, e1, ?_, s2, s3, e2⟩
  have hb : ∀ k, F k → k ≠ l → (w.setCell ⟨l, 1, none⟩ (.bool b)).heap[k]? = w.heap[k]? := fun k hk hn => s2.block k (h.bound k hk) (by simpa using hn)
  obtain ⟨o1, o2, o3⟩ := h.ok.lin i zs fl e1
  refine ⟨setLin_ok h.ok o1 o2 o3, (hb p h.fp (lin_ne_dev e5 h.obj).symm).trans h.obj, h.fp, h.fs, h.fm, own_same h.seen (hb sb h.fs (lin_ne_own e5 h.seen).symm), h.map.kept (hb bm h.fm (lin_ne_map e5 h.map).symm), fun j m hj => ?_, fun j hj => ?_, h.inj, fun k hk => by rw [s3]; exact h.bound k hk⟩
  · by_cases e : j = i
    · subst e
      rw [hi] at hj; cases hj
      exact ⟨xb, xc, zs, b, by simp [setLin], e2, e3, e4, by rw [s1]; simp [linObj], own_same e6 (hb xb e3 (lin_ne_own e5 e6).symm)⟩
    · obtain ⟨yb, yc, ys, yl, f1, f2, f3, f4, f5, f6⟩ := h.lines j m hj
      have hml : m ≠ l := fun e' => e (h.inj j i l (e' ▸ hj) hi)
      exact ⟨yb, yc, ys, yl, by simp [setLin, e]; exact f1, f2, f3, f4, (hb m f2 hml).trans f5, own_same f6 (hb yb f3 (lin_ne_own e5 f6).symm)⟩
  · by_cases e : j = i
    · subst e; rw [hi] at hj; cases hj
    · simp [setLin, e]; exact h.void j hj

theorem wpList_lookup_at (w : World) {ops : Array Oper} {rest : List Oper} {o : Oper} {a : Act} {Q : Exit → Act → World → Prop}
    (hg : o.guard = none) (m x : Operand) (hop : o.op = Op.lookup 75 m x false) (bm : Nat) (g : Nat → Option Nat) (N : Nat)
    (hm : a.eval m = .map (some bm)) (h : MapAt w bm g N) (i : Nat) (hi : i ≤ 9223372036854775807) (hx : a.eval x = .int .i64 i) (v : Value) (hv : ptrV (g i) = v)
    (hK : wpList Try.prog ops Q rest (a.put o.dst v) w) : wpList Try.prog ops Q (o :: rest) a w := by
  subst hv
  exact wpList_lookup_map w hg m x hop bm g N hm h i hi hx hK

theorem soil_old {w : World} {F : Nat → Prop} {p : Nat} {S : St} {sb sc bm : Nat} {g : Nat → Option Nat} (hd : DevAt w F p S sb sc bm g) (i l : Nat) (hi : g i = some l) :
    Calls Try.prog 94 #[.pointer (some ⟨p, 0, none⟩), .int .i64 i] w fun e w' => e = .returned (.tuple #[]) ∧ Dev w' F p (soilS S i) ∧ Goes F w F w' := by
  obtain ⟨c0, c1, c2, c3⟩ := dev_cells hd.obj
  have hiN := hd.map.lt hi
  have hN := hd.ok.n1
  have hmap := hd.map
  obtain ⟨xb, xc, zs, fl, e1, e2, e3, e4, e5, e6⟩ := hd.lines i l hi
  obtain ⟨l0, l1, l2⟩ := lin_cells e5
  obtain ⟨zs', fl', e1', d1, g1, s1, fl1⟩ := hd.flag hi false
  have hv : ptrV (g i) = .pointer (some ⟨l, 0, none⟩) := by rw [hi]; rfl
  have hi2 : i ≤ 9223372036854775807 := by omega
  have hS : soilS S i = setLin S i (some (zs', false)) := by simp [soilS, soilL, e1']
  rw [hS]
  have H1 : Hid (S.lin i = some (zs, fl)) := e1
  clear e1 e1' hS hi hiN hN
  go_enter Try.func94, Try.ntmps94
  go_wp2_with (at_lookup; refine wpList_lookup_at _ rfl _ _ rfl bm g S.n rfl hmap i hi2 rfl _ hv ?_)
  go_end0
  exact ⟨rfl, ⟨sb, sc, bm, g, d1⟩, ⟨Off.of_grown g1 (fun j hj => by cases hj; exact Or.inl fl1), fun _ h => Or.inl h⟩⟩

theorem cell_kept {w w' : World} {b i : Nat} (h : w'.heap[b]? = w.heap[b]?) : w'.cell? ⟨b, i, none⟩ = w.cell? ⟨b, i, none⟩ := World.cell?_of_block (a := ⟨b, i, none⟩) h
theorem alloc_block {w : World} {b : Nat} (h : b < w.heap.size) (o : Obj) : (w.alloc o).heap[b]? = w.heap[b]? := (MapKept.heap_alloc w o).2 b h
theorem Own.base {k : IntKind} {e : TypeId} {B : Nat} {w : World} {g n cap : Nat} {zs : List Int} (h : Own k e B w (some ⟨g, 0, none⟩) n cap zs) : B ≤ g ∧ g < w.heap.size := by
  rcases h.row.2 with ⟨hv, _⟩ | ⟨g', cap', cur, hv, hg, hh, _⟩
  · simp at hv
  · simp only [Value.slice.injEq, Option.some.injEq, Addr.mk.injEq, and_true] at hv
    rw [hv.1]; exact ⟨hg, (Array.getElem?_eq_some_iff.1 hh).1⟩

theorem soil_dev {w w1 w3 : World} {F : Nat → Prop} {p : Nat} {S : St} {sb sc bm : Nat} {g : Nat → Option Nat} (hd : DevAt w F p S sb sc bm g) {i xb xc : Nat} (hi : i < S.n) (hn : g i = none)
    (hx : Own .u8 5 w.heap.size w1 (some ⟨xb, 0, none⟩) 64 xc (lineAt S.seen i)) (hbel : Below w.heap.size w w1) (hm3 : MapAt w3 bm (laid g i (some w1.heap.size)) S.n) (hg3 : (w1.alloc (linObj xb xc false)).grownBy w3 (some bm)) :
    DevAt w3 (fun k => F k ∨ k = xb ∨ k = w1.heap.size) p (soilS S i) sb sc bm (laid g i (some w1.heap.size)) ∧ Goes F w (fun k => F k ∨ k = xb ∨ k = w1.heap.size) w3 := by
  have hs := hbel.size
  obtain ⟨x0, x1⟩ := hx.base
  have hsz : (w1.alloc (linObj xb xc false)).heap.size = w1.heap.size + 1 := by simp
  have hs3 := hg3.size
  have hbm := hd.bound bm hd.fm
  have old : ∀ k, k < w.heap.size → k ≠ bm → w3.heap[k]? = w.heap[k]? := fun k hk hn => by
    rw [hg3.block k (by omega) (by simpa using hn), alloc_block (by omega), hbel.block k hk]
  have mid : ∀ k, k < w1.heap.size → k ≠ bm → w3.heap[k]? = w1.heap[k]? := fun k hk hn => by
    rw [hg3.block k (by omega) (by simpa using hn), alloc_block hk]
  have hlb : w3.heap[w1.heap.size]? = some (linObj xb xc false) := by
    rw [hg3.block _ (by omega) (by simp; omega), (MapKept.heap_alloc w1 _).1]
  have hlin : S.lin i = none := hd.void i hn
  have hsoil : soilL S i = (lineAt S.seen i, false) := by simp [soilL, hlin]
  obtain ⟨m1, m2⟩ := hd.bm_ne
  refine ⟨⟨?_, (old p (hd.bound p hd.fp) m1.symm).trans hd.obj, Or.inl hd.fp, Or.inl hd.fs, Or.inl hd.fm, own_same hd.seen (old sb (hd.bound sb hd.fs) m2.symm), hm3, fun j l hj => ?_, fun j hj => ?_, fun j j' l h1 h2 => ?_, ?_⟩, ?_⟩
  · rw [soilS, hsoil]; exact setLin_ok hd.ok hi (lineAt_len hd.ok hi) (bytes_sub hd.ok.byt _ _)
  · by_cases e : j = i
    · subst e
      simp [laid] at hj
      subst hj
      refine ⟨xb, xc, lineAt S.seen j, false, by simp [soilS, setLin, hsoil], Or.inr (Or.inr rfl), Or.inr (Or.inl rfl), ?_, hlb, ?_⟩
      · have := hd.bound sb hd.fs; omega
      · exact (own_same hx (mid xb x1 (by omega))).mono (Nat.zero_le _)
    · simp [laid, e] at hj
      obtain ⟨yb, yc, ys, yl, f1, f2, f3, f4, f5, f6⟩ := hd.lines j l hj
      refine ⟨yb, yc, ys, yl, by simp [soilS, setLin, e]; exact f1, Or.inl f2, Or.inl f3, f4, (old l (hd.bound l f2) (lin_ne_map f5 hd.map)).trans f5, own_same f6 (old yb (hd.bound yb f3) ?_)⟩
      intro e'
      obtain ⟨es, c, hm⟩ := hd.map.obj
      obtain ⟨cur, hc, _⟩ := f6.block
      rw [e', hm] at hc; simp at hc
  · by_cases e : j = i
    · subst e; simp [laid] at hj
    · simp [laid, e] at hj
      simp [soilS, setLin, e]; exact hd.void j hj
  · by_cases e : j = i
    · by_cases e' : j' = i
      · rw [e, e']
      · simp [laid, e] at h1
        simp [laid, e'] at h2
        obtain ⟨_, _, _, _, _, f2, _⟩ := hd.lines j' l h2
        have := hd.bound l f2
        omega
    · by_cases e' : j' = i
      · simp [laid, e] at h1
        simp [laid, e'] at h2
        obtain ⟨_, _, _, _, _, f2, _⟩ := hd.lines j l h1
        have := hd.bound l f2
        omega
      · simp [laid, e] at h1
        simp [laid, e'] at h2
        exact hd.inj j j' l h1 h2
  · rintro k (hk | rfl | rfl)
    · have := hd.bound k hk; omega
    · omega
    · omega
  · refine ⟨⟨hg3.os.trans hbel.os, hg3.tape.trans hbel.tape, hg3.output.trans hbel.output, by omega, fun k hk hn => old k hk (fun e => hn (e ▸ hd.fm))⟩, ?_⟩
    rintro k (hk | rfl | rfl)
    · exact Or.inl hk
    · exact Or.inr x0
    · exact Or.inr hs

theorem soil_cells {w : World} {F : Nat → Prop} {p : Nat} {S : St} {sb sc bm : Nat} {g : Nat → Option Nat} (hd : DevAt w F p S sb sc bm g) {i l : Nat} (hi : g i = some l) :
    (∃ a c, w.cell? ⟨l, 0, none⟩ = some (.slice a 64 c)) ∧ (∃ fl, w.cell? ⟨l, 1, none⟩ = some (.bool fl)) ∧ w.frozen? ⟨l, 1, none⟩ = false := by
  obtain ⟨xb, xc, zs, fl, _, _, _, _, e5, _⟩ := hd.lines i l hi
  obtain ⟨l0, l1, l2⟩ := lin_cells e5
  exact ⟨⟨_, _, l0⟩, ⟨_, l1⟩, l2⟩
theorem soil_again {S : St} {i : Nat} {zs : List Int} {fl : Bool} (h : (soilS S i).lin i = some (zs, fl)) : setLin (soilS S i) i (some (zs, false)) = soilS S i := by
  have h1 : soilL S i = (zs, fl) := by simpa [soilS, setLin] using h
  have h2 : fl = false := by
    have : (soilL S i).2 = false := by unfold soilL; split <;> rfl
    rw [h1] at this; exact this
  subst h2
  unfold soilS setLin
  simp only [h1]
  congr 1
  funext j
  by_cases e : j = i <;> simp [e]

theorem soil_new {w : World} {F : Nat → Prop} {p : Nat} {S : St} {sb sc bm : Nat} {g : Nat → Option Nat} (hd : DevAt w F p S sb sc bm g) (i : Nat) (hi : i < S.n) (hn : g i = none) :
    Calls Try.prog 94 #[.pointer (some ⟨p, 0, none⟩), .int .i64 i] w fun e w' => e = .returned (.tuple #[]) ∧ ∃ F', Dev w' F' p (soilS S i) ∧ Goes F w F' w' := by
  obtain ⟨c0, c1, c2, c3⟩ := dev_cells hd.obj
  have hN := hd.ok.n1
  have hlen := hd.ok.len
  have hmap := hd.map
  have hpb := hd.bound p hd.fp
  have hmb := hd.bound bm hd.fm
  have hcap := hd.seen.cap_le
  have hv : ptrV (g i) = .pointer none := by rw [hn]; rfl
  have hi2 : i ≤ 9223372036854775807 := by omega
  have hsl := hd.seen.sl.rowpart (64 * i) 64 (by omega)
  rw [if_neg (by omega)] at hsl
  have hcl := clone_any _ _ _ _ w hsl (by omega) (by omega)
  obtain ⟨L, hL⟩ : ∃ L, L = S.seen.length := ⟨_, rfl⟩
  have hL1 : 64 * i + 64 ≤ L := by omega
  have hL2 : L ≤ 262144 := by omega
  rw [← hL] at c0 hcap
  have e64 : i * 64 = 64 * i := Nat.mul_comm _ _
  have HL : Hid (lineAt S.seen i = (S.seen.drop (64 * i)).take 64) := rfl
  rw [← HL.out] at hcl
  clear hL hlen hsl HL
  obtain ⟨LL, hLL⟩ : ∃ LL, LL = lineAt S.seen i := ⟨_, rfl⟩
  rw [← hLL] at hcl
  have HLL : Hid (LL = lineAt S.seen i) := hLL
  clear hLL
  go_enter Try.func94, Try.ntmps94
  go_wp2_with (first
    | (at_lookup; refine wpList_lookup_at _ rfl _ _ rfl bm g S.n rfl hmap i hi2 rfl _ hv ?_)
    | (go_at_call 48; with_reducible refine hcl.mono ?_; rintro e w1 ⟨xb, xc, rfl, hown, hbel⟩;
       have hs1 := hbel.size;
       have c1n : (w1.alloc (Obj.cells #[Value.slice (some ⟨xb, 0, none⟩) 64 xc, Value.bool false] 88)).cell? ⟨p, 1, none⟩ = some (.map (some bm)) := (cell_kept (alloc_block (by omega) _)).trans ((cell_kept (hbel.block p hpb)).trans c1);
       have hm2 : MapAt (w1.alloc (Obj.cells #[Value.slice (some ⟨xb, 0, none⟩) 64 xc, Value.bool false] 88)) bm g S.n := hmap.kept ((alloc_block (by omega) _).trans (hbel.block bm hmb)))
    | (at_mapUpdate; refine wpList_mapUpdate_map _ rfl _ _ _ rfl bm g S.n rfl hm2 hN i w1.heap.size hi rfl rfl ?_; intro w3 hm3 hg3;
       obtain ⟨hd3, hgo⟩ := soil_dev hd hi hn (by rw [← HLL.out]; exact hown) hbel hm3 hg3;
       obtain ⟨_, ⟨lf, l1⟩, l2⟩ := soil_cells hd3 (i := i) (l := w1.heap.size) (by simp [laid])))
  obtain ⟨zs', fl', e1', d1, g1, s1, fl1⟩ := hd3.flag (i := i) (l := w1.heap.size) (by simp [laid]) false
  go_end0
  rw [soil_again e1'] at d1
  exact ⟨rfl, _, ⟨_, _, _, _, d1⟩, hgo.trans ⟨Off.of_grown g1 (fun j hj => by cases hj; exact Or.inl fl1), fun _ h => Or.inl h⟩⟩
theorem soil_any {w : World} {F : Nat → Prop} {p : Nat} {S : St} (hd : Dev w F p S) (i : Nat) (hi : i < S.n) :
    Calls Try.prog 94 #[.pointer (some ⟨p, 0, none⟩), .int .i64 i] w fun e w' => e = .returned (.tuple #[]) ∧ ∃ F', Dev w' F' p (soilS S i) ∧ Goes F w F' w' := by
  obtain ⟨sb, sc, bm, g, hd⟩ := hd
  cases hg : g i with
  | none => exact soil_new hd i hi hg
  | some l => exact (soil_old hd i l hg).mono fun _ _ ⟨h1, h2, h3⟩ => ⟨h1, F, h2, h3⟩
end Go.Proofs.Ytgiippbjieecmaa
/- 'copy' onto a row of the call's own. -/
namespace Go.Proofs.Ytgiippbjieecmaa
set_option maxRecDepth 100000
open Go.RowKit Go.Maps

theorem wpList_copy_row {w : World} {ops : Array Oper} {rest : List Oper} {o : Oper} {a : Act} {Q : Exit → Act → World → Prop} (hgd : o.guard = none) (d s : Operand)
    (ho : o.op = .call { callee := .builtin .copy, args := #[d, s], argTypes := #[27, 27] })
    (dp sp : Option Addr) (dLen dCap sLen sCap : Nat) (hd : a.eval d = .slice dp dLen dCap) (hs : a.eval s = .slice sp sLen sCap)
    (B sb i L sc : Nat) (zs ys : List Int) (hown : Own .u8 5 B w (some ⟨sb, 0, none⟩) L sc zs) (hn : ys.length = Nat.min sLen dLen)
    (hpos : 0 < ys.length → dp = some ⟨sb, i, none⟩) (hsl : Sl .u8 w sp sLen sCap ys) (hfit : i + ys.length ≤ L)
    (h : ∀ w', Own .u8 5 B w' (some ⟨sb, 0, none⟩) L sc (splice zs i ys) → w.grownBy w' (some sb) → w'.heap.size = w.heap.size → wpList Try.prog ops Q rest (a.put o.dst (goInt ys.length)) w') :
    wpList Try.prog ops Q (o :: rest) a w := by
  have hsz : (Try.prog.info? 5).map (·.size) = some 1 := by
    obtain ⟨i0, hi, hz0, hz1, hz2⟩ := info_parts Try.info5
    rw [hi]; simp [hz1]
  by_cases h0 : ys.length = 0
  · obtain rfl : ys = [] := List.eq_nil_of_length_eq_zero h0
    refine wpList_copy_nothing hgd d s 27 27 ho 5 Try.underlying27 hsz dp sp dLen dCap sLen sCap hd hs (by simpa using hn.symm) ?_
    have e1 : splice zs i ([] : List Int) = zs := by simp [splice]
    exact h w (by rw [e1]; exact hown) (World.grownBy.refl _ _) rfl
  · have hdp := hpos (by omega)
    subst hdp
    have hl := hsl.len
    obtain ⟨b, off, rfl, _, hc⟩ := hsl.here (by omega)
    obtain ⟨cur, hcur, hsize, _⟩ := hown.block
    have hcap := hown.cap_le
    obtain ⟨r1, r2, r3⟩ := own_copied hown hfit hcur
    have hco := fun (hh : wpList Try.prog ops Q rest (a.put o.dst (goInt (ys.map (Value.int .u8)).length)) (w.setRow sb (cur.toList.take i ++ (ys.map (Value.int .u8) ++ cur.toList.drop (i + (ys.map (Value.int .u8)).length))).toArray)) =>
      wpList_copy_own hgd d s 27 27 ho 5 Try.underlying27 hsz sb i dLen dCap ⟨b, off, none⟩ sLen sCap hd hs cur 5 hcur (ys.map (Value.int .u8)) (by simpa using hn) (fun j v hv => by
        have hj : j < ys.length := by simpa using (List.getElem?_eq_some_iff.1 hv).1
        rw [Addr.add_lit, hc j (by omega)]
        simp only [List.getElem?_map, List.getElem?_eq_getElem hj, Option.map_some, Option.some.injEq] at hv
        subst hv
        simp [List.getD, List.getElem?_eq_getElem hj]) (by simp; omega) (ints_oneCell _ _) hh
    refine hco ?_
    rw [List.length_map]
    rw [List.length_map] at r1 r2 r3
    exact h _ r1 r2 r3
end Go.Proofs.Ytgiippbjieecmaa
/- pmem's Store by its contract. -/
namespace Go.Proofs.Ytgiippbjieecmaa
set_option maxRecDepth 100000
open Go.RowKit Go.Maps


def soilTo (S : St) (a : Nat) : Nat → St
  | 0 => S
  | k + 1 => soilS (soilTo S a k) (a + k)
theorem soilTo_seen (S : St) (a k : Nat) : (soilTo S a k).seen = S.seen ∧ (soilTo S a k).n = S.n ∧ (soilTo S a k).armed = S.armed ∧ (soilTo S a k).down = S.down := by
  induction k with
  | zero => exact ⟨rfl, rfl, rfl, rfl⟩
  | succ k ih => exact ih
theorem soilTo_step (T : St) {a q : Nat} (h : a ≤ q) : soilTo T a (q + 1 - a) = soilS (soilTo T a (q - a)) q := by
  rw [show q + 1 - a = (q - a) + 1 by omega]
  show soilS (soilTo T a (q - a)) (a + (q - a)) = _
  rw [show a + (q - a) = q by omega]
def storeS (S : St) (i : Nat) (ys : List Int) : St := { soilTo S (lineA i ys.length) (lineB i ys.length - lineA i ys.length) with seen := splice S.seen i ys }

theorem stepE_zero {S : St} {at_ n : Int} (h : stepE S at_ n = 0) : checkE S at_ n = 0 := by
  unfold stepE at h
  by_cases hh : checkE S at_ n ≠ 0
  · rw [if_pos hh] at h; exact h
  · omega
theorem stepS_same (S : St) (at_ n : Int) : (stepS S at_ n).seen = S.seen ∧ (stepS S at_ n).n = S.n ∧ (stepS S at_ n).lin = S.lin := by
  unfold stepS
  split <;> exact ⟨rfl, rfl, rfl⟩

theorem store_bad {w : World} {F : Nat → Prop} {p : Nat} {S : St} (hd : Dev w F p S) (at_ : Int) (ao : Option Addr) (n cap : Nat) (ha : -9223372036854775808 ≤ at_ ∧ at_ ≤ 9223372036854775807) (hn : n ≤ 9223372036854775807) (hE : stepE S at_ n ≠ 0) :
    Calls Try.prog 85 #[.pointer (some ⟨p, 0, none⟩), .int .i64 at_, .slice ao n cap] w fun e w' => e = .returned (.int .i64 (stepE S at_ n)) ∧ Dev w' F p (stepS S at_ n) ∧ Goes F w F w' := by
  obtain ⟨sb, sc, bm, g, hd⟩ := hd
  have hc := step_at hd at_ n ha (by omega)
  have hfp := hd.fp
  obtain ⟨E, hE'⟩ : ∃ E, E = stepE S at_ n := ⟨_, rfl⟩
  rw [← hE'] at hc hE ⊢
  clear hE'
  go_enter Try.func85, Try.ntmps85
  go_wp2_with (go_at_call 88; with_reducible refine hc.mono ?_; rintro e w' ⟨rfl, d1, g1, s1⟩)
  go_ret
  exact ⟨rfl, ⟨_, _, _, _, d1⟩, ⟨Off.of_grown g1 (fun j hj => by cases hj; exact Or.inl hfp), fun _ h => Or.inl h⟩⟩

theorem St.Ok.splice {S : St} (h : S.Ok) {i : Nat} {ys : List Int} (hi : i + ys.length ≤ S.seen.length) (hb : Bytes ys) : ({ S with seen := splice S.seen i ys } : St).Ok :=
  ⟨by show (Go.splice S.seen i ys).length = _; rw [splice_length hi]; exact h.len, h.n0, h.n1, h.a0, h.a1, splice_bytes h.byt hb, h.lin⟩

/-- What is seen has turned. -/
theorem DevAt.seeing {w w' : World} {F : Nat → Prop} {p : Nat} {S : St} {sb sc bm : Nat} {g : Nat → Option Nat} (h : DevAt w F p S sb sc bm g) {i : Nat} {ys : List Int} (hi : i + ys.length ≤ S.seen.length) (hb : Bytes ys) (hg : w.grownBy w' (some sb))
    (ho : Own .u8 5 0 w' (some ⟨sb, 0, none⟩) S.seen.length sc (Go.splice S.seen i ys)) : DevAt w' F p { S with seen := Go.splice S.seen i ys } sb sc bm g := by
  have hs := hg.size
  have old : ∀ k, F k → k ≠ sb → w'.heap[k]? = w.heap[k]? := fun k hk hn => hg.block k (h.bound k hk) (by simpa using hn)
  have hl : (Go.splice S.seen i ys).length = S.seen.length := splice_length hi
  refine ⟨h.ok.splice hi hb, ?_, h.fp, h.fs, h.fm, ?_, h.map.kept (old bm h.fm h.bm_ne.2), fun j l hj => ?_, h.void, h.inj, fun k hk => Nat.lt_of_lt_of_le (h.bound k hk) hs⟩
  · rw [old p h.fp h.sb_ne.symm, h.obj]; show _ = some (devObj sb (Go.splice S.seen i ys).length sc bm S.armed S.down); rw [hl]
  · show Own .u8 5 0 w' (some ⟨sb, 0, none⟩) (Go.splice S.seen i ys).length sc _; rw [hl]; exact ho
  · obtain ⟨xb, xc, zs, fl, e1, e2, e3, e4, e5, e6⟩ := h.lines j l hj
    exact ⟨xb, xc, zs, fl, e1, e2, e3, e4, (old l e2 (lin_ne_own e5 h.seen)).trans e5, own_same e6 (old xb e3 e4)⟩

theorem lines_fit {i n N : Nat} (h : i + n ≤ 64 * N) : lineA i n ≤ lineB i n ∧ lineB i n ≤ N := by
  unfold lineA lineB
  split
  · omega
  · omega

theorem store_end {w wr w5 : World} {F F' : Nat → Prop} {p i a q b L sb sc bm : Nat} {g : Nat → Option Nat} {T Z : St} {ys : List Int} (hdk : DevAt wr F' p Z sb sc bm g) (hL : L = Z.seen.length) (hfit : i + ys.length ≤ L) (hby : Bytes ys) (hg5 : wr.grownBy w5 (some sb))
    (ho5 : Own .u8 5 0 w5 (some ⟨sb, 0, none⟩) L sc (Go.splice Z.seen i ys)) (hq : q = b) (hZ : Z = soilTo T a (q - a)) (hs : Z.seen = T.seen) (hgo : Goes F w F' wr) :
    Ending.returned (Value.int .i64 0) = Ending.returned (Value.int .i64 0) ∧ ∃ F', Dev w5 F' p { soilTo T a (b - a) with seen := Go.splice T.seen i ys } ∧ Goes F w F' w5 := by
  subst hL
  have h := hdk.seeing hfit hby hg5 ho5
  rw [hs, hZ, hq] at h
  exact ⟨rfl, F', ⟨_, _, _, _, h⟩, hgo.trans ⟨Off.of_grown hg5 (fun j hj => by cases hj; exact Or.inl hdk.fs), fun _ h => Or.inl h⟩⟩

set_option maxRecDepth 100000 in
theorem store_good {w : World} {F : Nat → Prop} {p : Nat} {S : St} (hd : Dev w F p S) (i : Nat) (ao : Option Addr) (n cap : Nat) (ys : List Int) (hsl : Sl .u8 w ao n cap ys) (hby : Bytes ys) (hno : 0 < n → ∀ c, ao = some c → ¬ F c.block) (hE : stepE S i n = 0) :
    Calls Try.prog 85 #[.pointer (some ⟨p, 0, none⟩), .int .i64 i, .slice ao n cap] w fun e w' => e = .returned (.int .i64 0) ∧ ∃ F', Dev w' F' p (storeS (stepS S i n) i ys) ∧ Goes F w F' w' := by
  obtain ⟨_, _, _, hle⟩ := checkE_zero (stepE_zero hE)
  have hlen := hd.ok.len
  have hN := hd.ok.n1
  have hyl := hsl.len
  obtain ⟨sb, sc, bm, g, hd⟩ := hd
  have hc := step_at hd i n (by omega) (by omega)
  have hfp := hd.fp
  rw [hE] at hc
  have hlo := linesOf_any i n
  obtain ⟨hA, hB⟩ := lines_fit (i := i) (n := n) (N := S.n) (by omega)
  obtain ⟨T, hT⟩ : ∃ T, T = stepS S i n := ⟨_, rfl⟩
  obtain ⟨t1, t2, t3⟩ := stepS_same S i n
  rw [← hT] at hc t1 t2 t3 ⊢
  obtain ⟨a, ha⟩ : ∃ a, a = lineA i n := ⟨_, rfl⟩
  obtain ⟨b, hb⟩ : ∃ b, b = lineB i n := ⟨_, rfl⟩
  have hst : storeS T i ys = { soilTo T a (b - a) with seen := Go.splice T.seen i ys } := by unfold storeS; rw [hyl, ha, hb]
  rw [← ha, ← hb] at hlo hA
  rw [← hb] at hB
  rw [hst]
  have hle2 : i + n ≤ 64 * S.n := by omega
  have hle3 : i + n ≤ 262144 := by omega
  have HT : Hid (T.n = S.n ∧ T.seen = S.seen ∧ S.seen.length = 64 * S.n) := ⟨t2, t1, hlen⟩
  clear hst ha hb hT hE hle hlen t1 t2 t3
  go_enter Try.func85, Try.ntmps85
  go_wp2_with (first
    | (go_at_call 88; with_reducible refine hc.mono ?_; rintro e w1 ⟨rfl, d1, g1, s1⟩)
    | (go_at_call 93; refine (hlo _ hle3).mono ?_; rintro e w2 ⟨rfl, rfl⟩))
  have hgo1 : Goes F w F w1 := ⟨Off.of_grown g1 (fun j hj => by cases hj; exact Or.inl hfp), fun _ h => Or.inl h⟩
  go_loopw [10] (fun c wr => ∃ (q : Nat) (F' : Nat → Prop), a ≤ q ∧ q ≤ b ∧ c = .int .i64 q ∧ Dev wr F' p (soilTo T a (q - a)) ∧ Goes F w F' wr) (fun c _ => b - (RowKit.intOf c).toNat)
  case atStart => exact ⟨a, F, Nat.le_refl _, hA, rfl, by rw [Nat.sub_self]; exact ⟨_, _, _, _, d1⟩, hgo1⟩
  case round =>
    obtain ⟨q, F', hq1, hq2, rfl, hdk, hgo⟩ := hrel
    by_cases hlt : q < b
    · have hcs := soil_any hdk q (by rw [(soilTo_seen T a (q - a)).2.1, HT.out.1]; omega)
      have hS : Hid (soilTo T a (q + 1 - a) = soilS (soilTo T a (q - a)) q) := soilTo_step T hq1
      clear hdk
      go_wp2_with (go_at_call 94; with_reducible refine hcs.mono ?_; rintro e w3 ⟨rfl, F3, d3, g3⟩)
      go_roundw
      case rel => exact ⟨q + 1, F3, by omega, by omega, by go_num, by rw [hS.out]; exact d3, hgo.trans g3⟩
      case measure => simp [RowKit.intOf]; omega
    · have hqb : q = b := by omega
      have hkb : ¬ ((q : Int) < (b : Int)) := by omega
      have HQ : Hid (q = b) := hqb
      clear hqb
      obtain ⟨sb', sc', bm', g', hdk⟩ := hdk
      obtain ⟨c0, c1, c2, c3⟩ := dev_cells hdk.obj
      obtain ⟨q1, q2, q3, q4⟩ := soilTo_seen T a (q - a)
      have hcap := hdk.seen.cap_le
      have hsl' : Sl .u8 wr ao n cap ys := hsl.off hgo.off hno
      have hown := hdk.seen
      have hq : (soilTo T a (q - a)).seen.length = 64 * S.n := by rw [q1, HT.out.2.1, HT.out.2.2]
      obtain ⟨Z, hZ⟩ : ∃ Z, Z = soilTo T a (q - a) := ⟨_, rfl⟩
      rw [← hZ] at c0 c2 c3 hown hdk hcap hq q1
      have HZZ : Hid (Z = soilTo T a (q - a)) := hZ
      obtain ⟨L, hL⟩ : ∃ L, L = Z.seen.length := ⟨_, rfl⟩
      rw [← hL] at c0 hown hcap hq
      have HZ : Hid (Z.seen = T.seen) := q1
      have HL : Hid (L = Z.seen.length) := hL
      have hin : i + n ≤ L := by omega
      have hL9 : L ≤ 262144 := by omega
      clear hZ q1 q2 q3 q4 hL hq HT hle2
      by_cases hsc : sc' = i
      · subst hsc
        have HX : Hid (ys.length = n ∧ n = 0) := hid ⟨hyl, by omega⟩
        have hfit : sc' + ys.length ≤ L := by omega
        clear hyl
        go_wp2_with (with_reducible refine wpList_copy_row rfl (.tmp 40) (.tmp 41) rfl _ _ _ _ _ _ rfl rfl 0 sb' sc' L sc' Z.seen ys hown (by have hy := HX.out; show _ = min _ _; omega) (fun h => absurd HX.out (by omega)) hsl' hfit ?_; intro w5 ho5 hg5 hs5)
        go_wp2
        go_ret
        exact store_end hdk HL.out hfit hby hg5 ho5 HQ.out HZZ.out HZ.out hgo
      · have HX : Hid (ys.length = n) := hid hyl
        have hfit : i + ys.length ≤ L := by omega
        clear hyl
        go_wp2_with (with_reducible refine wpList_copy_row rfl (.tmp 40) (.tmp 41) rfl _ _ _ _ _ _ rfl rfl 0 sb' i L sc' Z.seen ys hown (by have hy := HX.out; show _ = min _ _; omega) (fun _ => rfl) hsl' hfit ?_; intro w5 ho5 hg5 hs5)
        go_wp2
        go_ret
        exact store_end hdk HL.out hfit hby hg5 ho5 HQ.out HZZ.out HZ.out hgo
end Go.Proofs.Ytgiippbjieecmaa
/- pmem's Flush by its contract. -/
namespace Go.Proofs.Ytgiippbjieecmaa
set_option maxRecDepth 100000
open Go.RowKit Go.Maps

def flushP (S : St) (a b : Nat) (left : Nat → Bool) : St := { S with lin := fun j => (S.lin j).map fun x => (x.1, if a ≤ j ∧ j < b ∧ left j = false then true else x.2) }
def flushS (S : St) (a b : Nat) : St := flushP S a b (fun _ => false)
def strike (left : Nat → Bool) (i : Nat) : Nat → Bool := fun j => left j && (j != i)

theorem St.ext' {S T : St} (h1 : S.n = T.n) (h2 : S.seen = T.seen) (h3 : ∀ j, S.lin j = T.lin j) (h4 : S.armed = T.armed) (h5 : S.down = T.down) : S = T := by
  cases S; cases T; simp only [St.mk.injEq] at *; exact ⟨h1, h2, funext h3, h4, h5⟩

theorem flushP_start {S : St} {a b : Nat} {left : Nat → Bool} (h : ∀ j x, S.lin j = some x → left j = true) : flushP S a b left = S := by
  refine St.ext' rfl rfl (fun j => ?_) rfl rfl
  show (S.lin j).map _ = _
  cases hj : S.lin j with
  | none => rfl
  | some x => simp [h j x hj]
theorem flushP_end {S : St} {a b : Nat} {left : Nat → Bool} (h : ∀ j, left j = false) : flushP S a b left = flushS S a b := by
  refine St.ext' rfl rfl (fun j => ?_) rfl rfl
  show (S.lin j).map _ = (S.lin j).map _
  simp [h]
theorem flushP_out {S : St} {a b i : Nat} {left : Nat → Bool} (h : ¬ (a ≤ i ∧ i < b)) : flushP S a b (strike left i) = flushP S a b left := by
  refine St.ext' rfl rfl (fun j => ?_) rfl rfl
  show (S.lin j).map _ = (S.lin j).map _
  congr 1; funext x
  by_cases e : j = i
  · subst e
    rw [if_neg (by omega), if_neg (by omega)]
  · simp [strike, e]
theorem flushP_in {S : St} {a b i : Nat} {left : Nat → Bool} {zs : List Int} {fl : Bool} (h : a ≤ i ∧ i < b) (hz : (flushP S a b left).lin i = some (zs, fl)) : setLin (flushP S a b left) i (some (zs, true)) = flushP S a b (strike left i) := by
  refine St.ext' rfl rfl (fun j => ?_) rfl rfl
  by_cases e : j = i
  · subst e
    have hz' : (S.lin j).map (fun x => (x.1, if a ≤ j ∧ j < b ∧ left j = false then true else x.2)) = some (zs, fl) := hz
    show (if j = j then some (zs, true) else _) = (S.lin j).map _
    cases hj : S.lin j with
    | none => rw [hj] at hz'; cases hz'
    | some x =>
      rw [hj] at hz'
      simp only [Option.map_some, Option.some.injEq, Prod.mk.injEq] at hz'
      simp [strike, h.1, h.2, hz'.1]
  · show (if j = i then _ else _) = (S.lin j).map _
    rw [if_neg e]
    show (S.lin j).map _ = (S.lin j).map _
    simp [strike, e]

theorem flush_bad {w : World} {F : Nat → Prop} {p : Nat} {S : St} (hd : Dev w F p S) (at_ n : Int) (ha : -9223372036854775808 ≤ at_ ∧ at_ ≤ 9223372036854775807) (hn : -9223372036854775808 ≤ n ∧ n ≤ 9223372036854775807) (hE : stepE S at_ n ≠ 0) :
    Calls Try.prog 87 #[.pointer (some ⟨p, 0, none⟩), .int .i64 at_, .int .i64 n] w fun e w' => e = .returned (.int .i64 (stepE S at_ n)) ∧ Dev w' F p (stepS S at_ n) ∧ Goes F w F w' := by
  obtain ⟨sb, sc, bm, g, hd⟩ := hd
  have hc := step_at hd at_ n ha hn
  have hfp := hd.fp
  obtain ⟨E, hE'⟩ : ∃ E, E = stepE S at_ n := ⟨_, rfl⟩
  rw [← hE'] at hc hE ⊢
  clear hE'
  go_enter Try.func87, Try.ntmps87
  go_wp2_with (go_at_call 88; with_reducible refine hc.mono ?_; rintro e w' ⟨rfl, d1, g1, s1⟩)
  go_ret
  exact ⟨rfl, ⟨_, _, _, _, d1⟩, ⟨Off.of_grown g1 (fun j hj => by cases hj; exact Or.inl hfp), fun _ h => Or.inl h⟩⟩

set_option maxRecDepth 100000 in
theorem flush_good {w : World} {F : Nat → Prop} {p : Nat} {S : St} (hd : Dev w F p S) (i n : Nat) (hE : stepE S i n = 0) :
    Calls Try.prog 87 #[.pointer (some ⟨p, 0, none⟩), .int .i64 i, .int .i64 n] w fun e w' => e = .returned (.int .i64 0) ∧ Dev w' F p (flushS (stepS S i n) (lineA i n) (lineB i n)) ∧ Goes F w F w' := by
  obtain ⟨_, _, _, hle⟩ := checkE_zero (stepE_zero hE)
  have hlen := hd.ok.len
  have hN := hd.ok.n1
  obtain ⟨sb, sc, bm, g, hd⟩ := hd
  have hc := step_at hd i n (by omega) (by omega)
  have hfp := hd.fp
  rw [hE] at hc
  have hlo := linesOf_any i n
  obtain ⟨hA, hB⟩ := lines_fit (i := i) (n := n) (N := S.n) (by omega)
  obtain ⟨T, hT⟩ : ∃ T, T = stepS S i n := ⟨_, rfl⟩
  obtain ⟨_, t2, _⟩ := stepS_same S i n
  rw [← hT] at hc t2 ⊢
  obtain ⟨a, ha⟩ : ∃ a, a = lineA i n := ⟨_, rfl⟩
  obtain ⟨b, hb⟩ : ∃ b, b = lineB i n := ⟨_, rfl⟩
  rw [← ha, ← hb] at hlo hA ⊢
  rw [← hb] at hB
  rw [← t2] at hN
  have hle3 : i + n ≤ 262144 := by omega
  clear ha hb hT hE hle hlen t2 hB
  have hbd := hd.bound
  go_enter Try.func87, Try.ntmps87
  go_wp2_with (first
    | (go_at_call 88; with_reducible refine hc.mono ?_; rintro e w1 ⟨rfl, d1, g1, s1⟩;
       obtain ⟨c0, c1, c2, c3⟩ := dev_cells d1.obj; have hmap := d1.map; have S1 : Hid (w1.heap.size = w.heap.size) := s1; clear s1)
    | (go_at_call 93; refine (hlo _ hle3).mono ?_; rintro e w2 ⟨rfl, rfl⟩)
    | (at_range; refine wpList_range_map _ rfl _ rfl bm g T.n rfl hmap ?_; intro w0 hrg0 hg0 hs0))
  go_frame
  go_loopw [10] (fun _ wr => ∃ (left : Nat → Bool), Rng wr bm w1.heap.size g T.n left ∧ DevAt wr F p (flushP T a b left) sb sc bm g ∧ Off F w wr) (fun _ wr => wr.rangeLeft bm w1.heap.size)
  case atStart =>
    refine ⟨_, hrg0, ?_, ?_⟩
    · rw [flushP_start]
      · exact d1.same hg0.size (fun k hk => hg0.block k (d1.bound k hk) (by simp))
      · intro j x hj
        cases hgj : g j with
        | none => rw [d1.void j hgj] at hj; cases hj
        | some l => rfl
    · exact (Off.of_grown g1 (fun j hj => by cases hj; exact Or.inl hfp)).trans (F' := fun _ => False) (Off.of_grown hg0 (fun j hj => by cases hj)) (fun _ h => h.elim)
  case round =>
    obtain ⟨left, hrg, hdl, hoff⟩ := hrel
    have hr1 : ∀ k, F k → k ≠ w1.heap.size := fun k hk => by have := d1.bound k hk; omega
    go_wp2_with (at_next; refine wpList_next_map _ rfl _ rfl bm w1.heap.size g T.n left hN rfl hrg ?_ ?_)
    · intro hl0
      go_wp2
      go_ret
      exact ⟨rfl, ⟨_, _, _, _, by rw [← flushP_end hl0]; exact hdl⟩, hoff, fun _ h => Or.inl h⟩
    · intro q l w2 hgq hqN hlq hrg2 hlt2 hg2 hs2 hen
      have hd2 : DevAt w2 F p (flushP T a b left) sb sc bm g := hdl.same hg2.size (fun k hk => hg2.block k (hdl.bound k hk) (by simpa using hr1 k hk))
      have hoff2 : Off F w w2 := hoff.trans (F' := fun k => k = w1.heap.size) (Off.of_grown hg2 (fun j hj => by cases hj; exact Or.inl rfl)) (fun k hk => Or.inr (by rw [hk, S1.out]; exact Nat.le_refl _))
      obtain ⟨xb, xc, zs, fl, e1, e2, e3, e4, e5, e6⟩ := hd2.lines q l hgq
      obtain ⟨l0, l1, l2⟩ := lin_cells e5
      obtain ⟨zs', fl', f1, d3, g3, s3, fl3⟩ := hd2.flag hgq true
      have hlb := lin_ne_map e5 hd2.map
      have hlr := hr1 l e2
      have H1 : Hid ((flushP T a b left).lin q = some (zs', fl')) := f1
      clear e1 f1 hgq hdl hrg
      by_cases hin : a ≤ q ∧ q < b
      · obtain ⟨i1, i2⟩ := hin
        have j1 : (a : Int) ≤ q := by omega
        have j2 : (q : Int) < b := by omega
        go_wp2
        go_roundw
        case rel =>
          refine ⟨strike left q, (hrg2.kept (g3.block bm hd2.map.bound (by simpa using hlb.symm)) (g3.block _ hrg2.lt (by simpa using hlr.symm))).1, ?_, ?_⟩
          · rw [← flushP_in ⟨i1, i2⟩ H1.out]; exact d3
          · exact hoff2.trans (Off.of_grown g3 (fun j hj => by cases hj; exact Or.inl fl3)) (fun _ h => Or.inl h)
        case measure =>
          rw [(hrg2.kept (g3.block bm hd2.map.bound (by simpa using hlb.symm)) (g3.block _ hrg2.lt (by simpa using hlr.symm))).2]; exact hlt2
      · have hk : flushP T a b left = flushP T a b (strike left q) := (flushP_out hin).symm
        rw [hk] at hd2
        have H2 : Hid (DevAt w2 F p (flushP T a b (strike left q)) sb sc bm g) := hd2
        clear d3 g3 s3 hd2 hk
        by_cases i1 : a ≤ q
        · have j1 : (a : Int) ≤ q := by omega
          have j2 : ¬ ((q : Int) < b) := by omega
          go_wp2
          go_roundw
          case rel => exact ⟨strike left q, hrg2, H2.out, hoff2⟩
          case measure => exact hlt2
        · have j1 : ¬ ((a : Int) ≤ q) := by omega
          go_wp2
          go_roundw
          case rel => exact ⟨strike left q, hrg2, H2.out, hoff2⟩
          case measure => exact hlt2
end Go.Proofs.Ytgiippbjieecmaa
/- pmem's Fence by its contract. -/
namespace Go.Proofs.Ytgiippbjieecmaa
set_option maxRecDepth 100000
open Go.RowKit Go.Maps

/-- Is line j flushed? -/
def flushed (S : St) (j : Nat) : Bool := match S.lin j with | some (_, true) => true | _ => false
def fenceP (S : St) (left : Nat → Bool) : St := { S with lin := fun j => if flushed S j = true ∧ left j = false then none else S.lin j }
def fenceS (S : St) : St := fenceP S (fun _ => false)
def fenceG (S : St) (g : Nat → Option Nat) (left : Nat → Bool) : Nat → Option Nat := fun j => if flushed S j = true ∧ left j = false then none else g j

theorem fenceP_start {S : St} {left : Nat → Bool} (h : ∀ j x, S.lin j = some x → left j = true) : fenceP S left = S := by
  refine St.ext' rfl rfl (fun j => ?_) rfl rfl
  show (if _ then none else S.lin j) = _
  cases hj : S.lin j with
  | none => simp
  | some x => simp [h j x hj]
theorem fenceG_start {S : St} {g : Nat → Option Nat} {left : Nat → Bool} (h : ∀ j x, S.lin j = some x → left j = true) : fenceG S g left = g := by
  funext j
  unfold fenceG flushed
  cases hj : S.lin j with
  | none => simp
  | some x => simp [h j x hj]
theorem fenceP_end {S : St} {left : Nat → Bool} (h : ∀ j, left j = false) : fenceP S left = fenceS S := by
  refine St.ext' rfl rfl (fun j => ?_) rfl rfl
  show (if _ then none else S.lin j) = (if _ then none else S.lin j)
  simp [h]
theorem fence_stays {S : St} {g : Nat → Option Nat} {left : Nat → Bool} {i : Nat} (h : flushed S i = false) : fenceP S (strike left i) = fenceP S left ∧ fenceG S g (strike left i) = fenceG S g left := by
  constructor
  · refine St.ext' rfl rfl (fun j => ?_) rfl rfl
    show (if _ then none else S.lin j) = (if _ then none else S.lin j)
    by_cases e : j = i
    · subst e; simp [h]
    · simp [strike, e]
  · funext j
    unfold fenceG
    by_cases e : j = i
    · subst e; simp [h]
    · simp [strike, e]
theorem fence_struck {S : St} {g : Nat → Option Nat} {left : Nat → Bool} {i : Nat} (h : flushed S i = true) : setLin (fenceP S left) i none = fenceP S (strike left i) ∧ laid (fenceG S g left) i none = fenceG S g (strike left i) := by
  constructor
  · refine St.ext' rfl rfl (fun j => ?_) rfl rfl
    show (if j = i then none else if _ then none else S.lin j) = (if _ then none else S.lin j)
    by_cases e : j = i
    · subst e; simp [h, strike]
    · simp [strike, e]
  · funext j
    unfold laid fenceG
    by_cases e : j = i
    · subst e; simp [h, strike]
    · simp [strike, e]

/-- A line is struck. -/
theorem DevAt.struck {w w' : World} {F : Nat → Prop} {p : Nat} {S : St} {sb sc bm : Nat} {g : Nat → Option Nat} (h : DevAt w F p S sb sc bm g) {i : Nat} (hg : w.grownBy w' (some bm)) (hm : MapAt w' bm (laid g i none) S.n) : DevAt w' F p (setLin S i none) sb sc bm (laid g i none) := by
  have old : ∀ k, F k → k ≠ bm → w'.heap[k]? = w.heap[k]? := fun k hk hn => hg.block k (h.bound k hk) (by simpa using hn)
  refine ⟨⟨h.ok.len, h.ok.n0, h.ok.n1, h.ok.a0, h.ok.a1, h.ok.byt, fun j zs fl hj => ?_⟩, (old p h.fp h.bm_ne.1.symm).trans h.obj, h.fp, h.fs, h.fm, own_same h.seen (old sb h.fs h.bm_ne.2.symm), hm, fun j l hj => ?_, fun j hj => ?_, fun j j' l h1 h2 => ?_, fun k hk => Nat.lt_of_lt_of_le (h.bound k hk) hg.size⟩
  · by_cases e : j = i
    · simp [setLin, e] at hj
    · simp [setLin, e] at hj; exact h.ok.lin j zs fl hj
  · by_cases e : j = i
    · simp [laid, e] at hj
    · simp [laid, e] at hj
      obtain ⟨xb, xc, zs, fl, e1, e2, e3, e4, e5, e6⟩ := h.lines j l hj
      refine ⟨xb, xc, zs, fl, by simp [setLin, e]; exact e1, e2, e3, e4, (old l e2 (lin_ne_map e5 h.map)).trans e5, own_same e6 (old xb e3 ?_)⟩
      intro e'
      obtain ⟨es, c, hmo⟩ := h.map.obj
      obtain ⟨cur, hc, _⟩ := e6.block
      rw [e', hmo] at hc; simp at hc
  · by_cases e : j = i
    · simp [setLin, e]
    · simp [laid, e] at hj
      simp [setLin, e]; exact h.void j hj
  · by_cases e : j = i
    · simp [laid, e] at h1
    · by_cases e' : j' = i
      · simp [laid, e'] at h2
      · simp [laid, e] at h1
        simp [laid, e'] at h2
        exact h.inj j j' l h1 h2

theorem fence_bad {w : World} {F : Nat → Prop} {p : Nat} {S : St} (hd : Dev w F p S) (hE : stepE S 0 0 ≠ 0) :
    Calls Try.prog 73 #[.pointer (some ⟨p, 0, none⟩)] w fun e w' => e = .returned (.int .i64 (stepE S 0 0)) ∧ Dev w' F p (stepS S 0 0) ∧ Goes F w F w' := by
  obtain ⟨sb, sc, bm, g, hd⟩ := hd
  have hc := step_at hd 0 0 (by omega) (by omega)
  have hfp := hd.fp
  obtain ⟨E, hE'⟩ : ∃ E, E = stepE S 0 0 := ⟨_, rfl⟩
  rw [← hE'] at hc hE ⊢
  clear hE'
  go_enter Try.func73, Try.ntmps73
  go_wp2_with (go_at_call 88; with_reducible refine hc.mono ?_; rintro e w' ⟨rfl, d1, g1, s1⟩)
  go_ret
  exact ⟨rfl, ⟨_, _, _, _, d1⟩, ⟨Off.of_grown g1 (fun j hj => by cases hj; exact Or.inl hfp), fun _ h => Or.inl h⟩⟩

set_option maxRecDepth 100000 in
theorem fence_good {w : World} {F : Nat → Prop} {p : Nat} {S : St} (hd : Dev w F p S) (hE : stepE S 0 0 = 0) :
    Calls Try.prog 73 #[.pointer (some ⟨p, 0, none⟩)] w fun e w' => e = .returned (.int .i64 0) ∧ Dev w' F p (fenceS (stepS S 0 0)) ∧ Goes F w F w' := by
  have hN := hd.ok.n1
  obtain ⟨sb, sc, bm, g, hd⟩ := hd
  have hc := step_at hd 0 0 (by omega) (by omega)
  have hfp := hd.fp
  rw [hE] at hc
  obtain ⟨T, hT⟩ : ∃ T, T = stepS S 0 0 := ⟨_, rfl⟩
  obtain ⟨_, t2, _⟩ := stepS_same S 0 0
  rw [← hT] at hc t2 ⊢
  rw [← t2] at hN
  clear hT hE t2
  go_enter Try.func73, Try.ntmps73
  go_wp2_with (first
    | (go_at_call 88; with_reducible refine hc.mono ?_; rintro e w1 ⟨rfl, d1, g1, s1⟩;
       obtain ⟨c0, c1, c2, c3⟩ := dev_cells d1.obj; have hmap := d1.map; have S1 : Hid (w1.heap.size = w.heap.size) := s1; clear s1)
    | (at_range; refine wpList_range_map _ rfl _ rfl bm g T.n rfl hmap ?_; intro w0 hrg0 hg0 hs0))
  go_frame
  have hst : ∀ j x, T.lin j = some x → (g j).isSome = true := by
    intro j x hj
    cases hgj : g j with
    | none => rw [d1.void j hgj] at hj; cases hj
    | some l => rfl
  go_loopw [4] (fun _ wr => ∃ (left : Nat → Bool), Rng wr bm w1.heap.size (fenceG T g left) T.n left ∧ DevAt wr F p (fenceP T left) sb sc bm (fenceG T g left) ∧ Off F w wr) (fun _ wr => wr.rangeLeft bm w1.heap.size)
  case atStart =>
    refine ⟨_, by rw [fenceG_start hst]; exact hrg0, ?_, ?_⟩
    · rw [fenceP_start hst, fenceG_start hst]
      exact d1.same hg0.size (fun k hk => hg0.block k (d1.bound k hk) (by simp))
    · exact (Off.of_grown g1 (fun j hj => by cases hj; exact Or.inl hfp)).trans (F' := fun _ => False) (Off.of_grown hg0 (fun j hj => by cases hj)) (fun _ h => h.elim)
  case round =>
    obtain ⟨left, hrg, hdl, hoff⟩ := hrel
    have hr1 : ∀ k, F k → k ≠ w1.heap.size := fun k hk => by have := d1.bound k hk; omega
    go_wp2_with (at_next; refine wpList_next_map _ rfl _ rfl bm w1.heap.size (fenceG T g left) T.n left hN rfl hrg ?_ ?_)
    · intro hl0
      go_wp2
      go_ret
      exact ⟨rfl, ⟨_, _, _, _, by rw [← fenceP_end hl0]; exact hdl⟩, hoff, fun _ h => Or.inl h⟩
    · intro q l w2 hgq hqN hlq hrg2 hlt2 hg2 hs2 hen
      have hd2 : DevAt w2 F p (fenceP T left) sb sc bm (fenceG T g left) := hdl.same hg2.size (fun k hk => hg2.block k (hdl.bound k hk) (by simpa using hr1 k hk))
      have hoff2 : Off F w w2 := hoff.trans (F' := fun k => k = w1.heap.size) (Off.of_grown hg2 (fun j hj => by cases hj; exact Or.inl rfl)) (fun k hk => Or.inr (by rw [hk, S1.out]; exact Nat.le_refl _))
      obtain ⟨xb, xc, zs, fl, e1, e2, e3, e4, e5, e6⟩ := hd2.lines q l hgq
      obtain ⟨l0, l1, l2⟩ := lin_cells e5
      obtain ⟨c0', c1', c2', c3'⟩ := dev_cells hd2.obj
      have hq9 : q ≤ 9223372036854775807 := by omega
      have hfl : flushed T q = fl := by
        have e1' : (if flushed T q = true ∧ left q = false then none else T.lin q) = some (zs, fl) := e1
        rw [hlq] at e1'
        simp at e1'
        simp only [flushed, e1']
        cases fl <;> rfl
      clear e1 hgq hdl hrg
      cases fl
      · have H2 : Hid (DevAt w2 F p (fenceP T (strike left q)) sb sc bm (fenceG T g (strike left q)) ∧ Rng w2 bm w1.heap.size (fenceG T g (strike left q)) T.n (strike left q)) := hid ⟨by rw [(fence_stays (g := g) hfl).1, (fence_stays (g := g) hfl).2]; exact hd2, by rw [(fence_stays (g := g) hfl).2]; exact hrg2⟩
        clear hfl
        go_wp2
        go_roundw
        case rel => exact ⟨strike left q, H2.out.2, H2.out.1, hoff2⟩
        case measure => exact hlt2
      · have HF : Hid (flushed T q = true) := hfl
        clear hfl
        go_wp2_with (at_delete; refine wpList_delete_map _ rfl _ _ rfl bm w1.heap.size (fenceG T g left) T.n _ rfl hrg2 q hq9 rfl ?_; intro w3 hrg3 hle3 hg3 hs3; go_frame)
        have hl2 : (fun j => (left j && (j != q)) && (j != q)) = strike left q := by funext j; simp [strike]
        have d3 := hd2.struck hg3 hrg3.map
        rw [(fence_struck (g := g) HF.out).1, (fence_struck (g := g) HF.out).2] at d3
        rw [(fence_struck (g := g) HF.out).2, hl2] at hrg3
        go_roundw
        case rel => exact ⟨strike left q, hrg3, d3, hoff2.trans (Off.of_grown hg3 (fun j hj => by cases hj; exact Or.inl hd2.fm)) (fun _ h => Or.inl h)⟩
        case measure => omega
end Go.Proofs.Ytgiippbjieecmaa
