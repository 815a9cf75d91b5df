/- A map from line numbers to lines, as a function of the number. -/
import Derived.Test.YtgiippbjieecmaaOff
import Derived.Test.YtgiippbjieecmaaProg
import Derived.Lib.SlKeysI
namespace Go.Proofs.Ytgiippbjieecmaa
set_option maxRecDepth 100000
open Go.RowKit Go.Maps

def ptrR (v : Value) : Option (DataW Unit × List MemPlace) :=
  match v with
  | .pointer none => some (.lit (.int .i64 (-1)), [])
  | .pointer (some ⟨b, 0, none⟩) => some (.lit (.int .i64 b), [])
  | _ => none
def ptrV : Option Nat → Value
  | none => .pointer none
  | some l => .pointer (some ⟨l, 0, none⟩)
def ptrD : Option Nat → DataW Unit
  | none => .lit (.int .i64 (-1))
  | some l => .lit (.int .i64 l)
theorem ptrR_mk (o : Option Nat) : ptrR (ptrV o) = some (ptrD o, []) := by cases o <;> rfl
theorem ptrR_inv {v : Value} {y : DataW Unit × List MemPlace} (h : ptrR v = some y) : ∃ o, v = ptrV o ∧ y = (ptrD o, []) := by
  unfold ptrR at h
  split at h
  · cases h; exact ⟨none, rfl, rfl⟩
  · cases h; exact ⟨some _, rfl, rfl⟩
  · cases h
theorem ptrD_inj {a b : Option Nat} (h : ptrD a = ptrD b) : a = b := by
  cases a <;> cases b <;> simp [ptrD] at h ⊢ <;> omega

/-- Block bm is a map whose keys are numbers below N, and that holds g's lines. -/
structure MapIs (w : World) (bm : Nat) (g : Nat → Option Nat) (N : Nat) (D : DataW Unit) : Prop where
  own : w.ownsMap Try.prog 3 ptrR bm N D
  item : ∀ i : Nat, D.atKey (.int .i64 i) (ptrD none) = ptrD (g i)
  keys : ∀ kl, Maps.has D kl = true → ∃ i : Nat, i < N ∧ kl = .int .i64 i
  have_ : ∀ i : Nat, Maps.has D (.int .i64 i) = (g i).isSome
def MapAt (w : World) (bm : Nat) (g : Nat → Option Nat) (N : Nat) : Prop := ∃ D, MapIs w bm g N D

theorem law3 : Keyed Try.prog 3 := int_keyed Try.underlying3
theorem MapIs.lt {w : World} {bm N : Nat} {g : Nat → Option Nat} {D : DataW Unit} (h : MapIs w bm g N D) {i l : Nat} (hi : g i = some l) : i < N := by
  have h1 := h.have_ i
  rw [hi] at h1
  obtain ⟨j, hj, e⟩ := h.keys _ h1
  simp only [Lit.int.injEq, true_and] at e
  omega
theorem MapAt.lt {w : World} {bm N : Nat} {g : Nat → Option Nat} (h : MapAt w bm g N) {i l : Nat} (hi : g i = some l) : i < N := by obtain ⟨D, h⟩ := h; exact h.lt hi
theorem MapAt.bound {w : World} {bm N : Nat} {g : Nat → Option Nat} (h : MapAt w bm g N) : bm < w.heap.size := by obtain ⟨D, h⟩ := h; exact h.own.lt
theorem MapAt.obj {w : World} {bm N : Nat} {g : Nat → Option Nat} (h : MapAt w bm g N) : ∃ es c, w.heap[bm]? = some (.map es c) := by obtain ⟨D, h⟩ := h; obtain ⟨es, c, h1, _⟩ := h.own; exact ⟨es, c, h1⟩

def keysOf (g : Nat → Option Nat) (N : Nat) : List Int := ((List.range N).filter (fun i => (g i).isSome)).map Int.ofNat
theorem keysOf_nodup (g : Nat → Option Nat) (N : Nat) : (keysOf g N).Nodup := by
  refine List.pairwise_map.2 ((List.nodup_range.filter _).imp ?_)
  intro a b h e
  exact h (Int.ofNat.inj e)
theorem keysOf_perm_of {w : World} {bm N n : Nat} {g : Nat → Option Nat} {D : DataW Unit} (ho : w.ownsMap Try.prog 3 ptrR bm n D) (hk : ∀ kl, Maps.has D kl = true → ∃ i : Nat, i < N ∧ kl = .int .i64 i) (hh : ∀ i : Nat, Maps.has D (.int .i64 i) = (g i).isSome) : (keysOf g N).Perm (intKeys D) := by
  obtain ⟨es, rfl, hp, _⟩ := ho.entries law3
  refine perm_intKeys hp (fun p hp' => ?_) (keysOf_nodup g N) (fun x => ?_)
  · have hkl : Maps.has (DataW.map es) p.1 = true := by
      rw [Maps.has_eq, List.any_eq_true]
      obtain ⟨es', e, _, hkey⟩ := ho.entries law3
      cases e
      exact ⟨p, hp', WideAt.sameKey_self (hkey p hp')⟩
    obtain ⟨i, _, e⟩ := hk _ hkl
    exact ⟨i, e⟩
  · constructor
    · intro hx
      obtain ⟨i, hi, rfl⟩ := List.mem_map.1 hx
      have := (List.mem_filter.1 hi).2
      show Maps.has _ (.int .i64 (i : Int)) = true
      rw [hh i]; exact this
    · intro hx
      obtain ⟨i, hi, e⟩ := hk _ hx
      simp only [Lit.int.injEq, true_and] at e
      subst e
      rw [hh i] at hx
      exact List.mem_map.2 ⟨i, List.mem_filter.2 ⟨List.mem_range.2 hi, hx⟩, rfl⟩
theorem size_le_of {w : World} {bm N n : Nat} {g : Nat → Option Nat} {D : DataW Unit} (ho : w.ownsMap Try.prog 3 ptrR bm n D) (hk : ∀ kl, Maps.has D kl = true → ∃ i : Nat, i < N ∧ kl = .int .i64 i) (hh : ∀ i : Nat, Maps.has D (.int .i64 i) = (g i).isSome) : Maps.size D ≤ N ∧ w.ownsMap Try.prog 3 ptrR bm N D := by
  have h1 := (keysOf_perm_of ho hk hh).length_eq
  have h2 : (keysOf g N).length ≤ N := by
    unfold keysOf
    rw [List.length_map]
    exact Nat.le_trans (List.length_filter_le _ _) (by simp)
  obtain ⟨es, c, hb, F, hs, rfl⟩ := ho
  have h3 : Maps.size (DataW.map ((es.toList.map (WideElems.rg Try.prog 3 ptrR)).foldr DataW.insert [])) = es.size := by
    rw [Maps.size_eq, length_sorted]; simp
  have h4 : Maps.size (DataW.map ((es.toList.map (WideElems.rg Try.prog 3 ptrR)).foldr DataW.insert [])) ≤ N := by
    have : (intKeys (DataW.map ((es.toList.map (WideElems.rg Try.prog 3 ptrR)).foldr DataW.insert []))).length = Maps.size (DataW.map ((es.toList.map (WideElems.rg Try.prog 3 ptrR)).foldr DataW.insert [])) := by
      simp [intKeys, Maps.size]
    omega
  exact ⟨h4, es, c, hb, F, by omega, rfl⟩
theorem MapIs.size {w : World} {bm N : Nat} {g : Nat → Option Nat} {D : DataW Unit} (h : MapIs w bm g N D) : Maps.size D ≤ N := (size_le_of h.own h.keys h.have_).1
theorem wf_nat {i : Nat} (h : i ≤ 9223372036854775807) : (Lit.int .i64 (i : Int)).wf = true := WalkArith.wf_i64 (by omega)

theorem MapAt.kept {w w' : World} {bm N : Nat} {g : Nat → Option Nat} (h : MapAt w bm g N) (hb : w'.heap[bm]? = w.heap[bm]?) : MapAt w' bm g N := by
  obtain ⟨D, ⟨es, c, h1, h2⟩, h3, h4, h5⟩ := h
  exact ⟨D, ⟨es, c, hb.trans h1, h2⟩, h3, h4, h5⟩
theorem MapAt.made (w : World) (N : Nat) : MapAt (w.alloc (.map #[] 0)) w.heap.size (fun _ => none) N :=
  ⟨.map [], (World.ownsMap_made w _ _ _).mono (Nat.zero_le _), fun _ => rfl, fun kl h => by simp [Maps.has] at h, fun _ => rfl⟩

/-- A line's look-up. -/
theorem wpList_lookup_map (w : World) {ops : Array Oper} {rest : List Oper} {o : Oper} {a : Act} {Q : Exit → Act → World → Prop}
    (hg : o.guard = none) (m x : Operand) (hop : o.op = Op.lookup 75 m x false) (bm : Nat) (g : Nat → Option Nat) (N : Nat)
    (hm : a.eval m = .map (some bm)) (h : MapAt w bm g N) (i : Nat) (hi : i ≤ 9223372036854775807) (hx : a.eval x = .int .i64 i)
    (hK : wpList Try.prog ops Q rest (a.put o.dst (ptrV (g i))) w) : wpList Try.prog ops Q (o :: rest) a w := by
  refine wpList_plain hg fun K' hK' => ?_
  obtain ⟨D, h⟩ := h
  obtain ⟨v, ps, hrun, hv⟩ := h.own.lookup law3 Try.underlying75 (z := .pointer none) (Try.zeroValue86 _) (zd := ptrD none) (zp := []) rfl (keyOf_int_mk Try.underlying3 (wf_nat hi))
  obtain ⟨o', rfl, e⟩ := ptrR_inv hv
  rw [h.item i] at e
  simp only [Prod.mk.injEq] at e
  rw [ptrD_inj e.1] at hK
  unfold Oper.wp
  simp [execOp, hop, hm, hx, hrun, Result.andThen]
  exact hK' _ _ hK

def laid (g : Nat → Option Nat) (i : Nat) (v : Option Nat) : Nat → Option Nat := fun j => if j = i then v else g j

/-- A line is laid into the map. -/
theorem wpList_mapUpdate_map (w : World) {ops : Array Oper} {rest : List Oper} {o : Oper} {a : Act} {Q : Exit → Act → World → Prop}
    (hg : o.guard = none) (m x v : Operand) (hop : o.op = Op.mapUpdate 75 m x v) (bm : Nat) (g : Nat → Option Nat) (N : Nat)
    (hm : a.eval m = .map (some bm)) (h : MapAt w bm g N) (hN : N ≤ 4096) (i l : Nat) (hi : i < N) (hx : a.eval x = .int .i64 i) (hv : a.eval v = .pointer (some ⟨l, 0, none⟩))
    (hK : ∀ w', MapAt w' bm (laid g i (some l)) N → w.grownBy w' (some bm) → wpList Try.prog ops Q rest (a.put o.dst undef) w') : wpList Try.prog ops Q (o :: rest) a w := by
  obtain ⟨D, h⟩ := h
  refine wpList_mapUpdate_own w hg m x v 75 hop 3 86 law3 Try.underlying75 ptrR bm N D hm h.own (by unfold maxLen; omega) _ _ (.int .i64 i) hx hv (keyOf_int_mk Try.underlying3 (wf_nat (by omega))) (ptrD (some l)) [] rfl (fun w' h1 h2 => hK w' ?_ h2)
  have hkl : WideAt.IsKeyLit (.int .i64 (i : Int)) := law3.key (keyOf_int_mk Try.underlying3 (wf_nat (by omega)))
  have hk : ∀ kl, Maps.has (D.put (.int .i64 i) (ptrD (some l))) kl = true → ∃ j : Nat, j < N ∧ kl = .int .i64 j := by
    intro kl hh
    by_cases e : kl = .int .i64 i
    · exact ⟨i, hi, e⟩
    · rw [has_put_other e] at hh; exact h.keys kl hh
  have hh : ∀ j : Nat, Maps.has (D.put (.int .i64 i) (ptrD (some l))) (.int .i64 j) = (laid g i (some l) j).isSome := by
    intro j
    by_cases e : j = i
    · subst e; rw [has_put_same h.own.isMap hkl]; simp [laid]
    · rw [has_put_other (by simp only [ne_eq, Lit.int.injEq, true_and]; omega), h.have_ j]; simp [laid, e]
  refine ⟨_, (size_le_of h1 hk hh).2, fun j => ?_, hk, hh⟩
  by_cases e : j = i
  · subst e; rw [atKey_put_same h.own.isMap hkl]; simp [laid]
  · rw [atKey_put_other (by simp only [ne_eq, Lit.int.injEq, true_and]; omega), h.item j]; simp [laid, e]

/-- 'clear(m)'. -/
theorem run_clear_map {w : World} {bm N : Nat} {g : Nat → Option Nat} (h : MapAt w bm g N) (ty : TypeId) :
    ∃ w', (Builtin.clear_ #[75] ty #[.map (some bm)]).run Try.prog w = .ok (.tuple #[]) w' ∧ MapAt w' bm (fun _ => none) N ∧ w.grownBy w' (some bm) := by
  obtain ⟨es, c, hb⟩ := h.obj
  have hrun : (Builtin.clear_ #[75] ty #[.map (some bm)]).run Try.prog w = .ok (.tuple #[]) (ChangeMaps.setBlock w bm (.map #[] c)) := by
    simp [Builtin.clear_, run_underlying Try.underlying75, MapKept.run_getObj_map hb, MapKept.run_setObj_map _ hb, Result.andThen, ChangeMaps.setBlock]
  refine ⟨_, hrun, ⟨.map [], ⟨#[], c, ChangeMaps.heap_setBlock_same hb _, ⟨by simp, MapKept.stamped_empty c, by simp⟩, Nat.zero_le _, rfl⟩, fun _ => rfl, fun kl h => by simp [Maps.has] at h, fun _ => rfl⟩, ⟨rfl, rfl, rfl, by simp [ChangeMaps.setBlock], fun i _ hi => ChangeMaps.heap_setBlock_other hb _ (fun e => hi (by rw [e]))⟩⟩
end Go.Proofs.Ytgiippbjieecmaa
