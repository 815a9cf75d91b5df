/- Dmap · Rng: these texts, one behind another. -/
import Derived.Test.YtgiippbjieecmaaGreatOff
import Derived.Test.YtgiippbjieecmaaGreatProg
import Derived.Lib.SlKeysI
/- A map from line numbers to lines, as a function of the number. -/
namespace Go.Proofs.YtgiippbjieecmaaGreat
set_option maxRecDepth 100000
open Go.RowKit Go.Maps

def ptrR (v : Value) : Option (DataW Unit × List MemPlace) :=
  match v with
  | .pointer none => some (.lit (.int .i64 (-1)), [])
  | .pointer (some ⟨b, 0, none⟩) => some (.lit (.int .i64 b), [])
  | _ => none
def ptrV : Option Nat → Value
  | none => .pointer none
  | some l => .pointer (some ⟨l, 0, none⟩)
def ptrD : Option Nat → DataW Unit
  | none => .lit (.int .i64 (-1))
  | some l => .lit (.int .i64 l)
theorem ptrR_mk (o : Option Nat) : ptrR (ptrV o) = some (ptrD o, []) := by cases o <;> rfl
theorem ptrR_inv {v : Value} {y : DataW Unit × List MemPlace} (h : ptrR v = some y) : ∃ o, v = ptrV o ∧ y = (ptrD o, []) := by
  unfold ptrR at h
  split at h
  · cases h; exact ⟨none, rfl, rfl⟩
  · cases h; exact ⟨some _, rfl, rfl⟩
  · cases h
theorem ptrD_inj {a b : Option Nat} (h : ptrD a = ptrD b) : a = b := by
  cases a <;> cases b <;> simp [ptrD] at h ⊢ <;> omega

/-- Block bm is a map whose keys are numbers below N, and that holds g's lines. -/
structure MapIs (w : World) (bm : Nat) (g : Nat → Option Nat) (N : Nat) (D : DataW Unit) : Prop where
  own : w.ownsMap Tryz.prog 3 ptrR bm N D
  item : ∀ i : Nat, D.atKey (.int .i64 i) (ptrD none) = ptrD (g i)
  keys : ∀ kl, Maps.has D kl = true → ∃ i : Nat, i < N ∧ kl = .int .i64 i
  have_ : ∀ i : Nat, Maps.has D (.int .i64 i) = (g i).isSome
def MapAt (w : World) (bm : Nat) (g : Nat → Option Nat) (N : Nat) : Prop := ∃ D, MapIs w bm g N D

theorem law3 : Keyed Tryz.prog 3 := int_keyed Tryz.underlying3
theorem MapIs.lt {w : World} {bm N : Nat} {g : Nat → Option Nat} {D : DataW Unit} (h : MapIs w bm g N D) {i l : Nat} (hi : g i = some l) : i < N := by
  have h1 := h.have_ i
  rw [hi] at h1
  obtain ⟨j, hj, e⟩ := h.keys _ h1
  simp only [Lit.int.injEq, true_and] at e
  omega
theorem MapAt.lt {w : World} {bm N : Nat} {g : Nat → Option Nat} (h : MapAt w bm g N) {i l : Nat} (hi : g i = some l) : i < N := by obtain ⟨D, h⟩ := h; exact h.lt hi
theorem MapAt.bound {w : World} {bm N : Nat} {g : Nat → Option Nat} (h : MapAt w bm g N) : bm < w.heap.size := by obtain ⟨D, h⟩ := h; exact h.own.lt
theorem MapAt.obj {w : World} {bm N : Nat} {g : Nat → Option Nat} (h : MapAt w bm g N) : ∃ es c, w.heap[bm]? = some (.map es c) := by obtain ⟨D, h⟩ := h; obtain ⟨es, c, h1, _⟩ := h.own; exact ⟨es, c, h1⟩

def keysOf (g : Nat → Option Nat) (N : Nat) : List Int := ((List.range N).filter (fun i => (g i).isSome)).map Int.ofNat
theorem keysOf_nodup (g : Nat → Option Nat) (N : Nat) : (keysOf g N).Nodup := by
  refine List.pairwise_map.2 ((List.nodup_range.filter _).imp ?_)
  intro a b h e
  exact h (Int.ofNat.inj e)
theorem keysOf_perm_of {w : World} {bm N n : Nat} {g : Nat → Option Nat} {D : DataW Unit} (ho : w.ownsMap Tryz.prog 3 ptrR bm n D) (hk : ∀ kl, Maps.has D kl = true → ∃ i : Nat, i < N ∧ kl = .int .i64 i) (hh : ∀ i : Nat, Maps.has D (.int .i64 i) = (g i).isSome) : (keysOf g N).Perm (intKeys D) := by
  obtain ⟨es, rfl, hp, _⟩ := ho.entries law3
  refine perm_intKeys hp (fun p hp' => ?_) (keysOf_nodup g N) (fun x => ?_)
  · have hkl : Maps.has (DataW.map es) p.1 = true := by
      rw [Maps.has_eq, List.any_eq_true]
      obtain ⟨es', e, _, hkey⟩ := ho.entries law3
      cases e
      exact ⟨p, hp', WideAt.sameKey_self (hkey p hp')⟩
    obtain ⟨i, _, e⟩ := hk _ hkl
    exact ⟨i, e⟩
  · constructor
    · intro hx
      obtain ⟨i, hi, rfl⟩ := List.mem_map.1 hx
      have := (List.mem_filter.1 hi).2
      show Maps.has _ (.int .i64 (i : Int)) = true
      rw [hh i]; exact this
    · intro hx
      obtain ⟨i, hi, e⟩ := hk _ hx
      simp only [Lit.int.injEq, true_and] at e
      subst e
      rw [hh i] at hx
      exact List.mem_map.2 ⟨i, List.mem_filter.2 ⟨List.mem_range.2 hi, hx⟩, rfl⟩
theorem size_le_of {w : World} {bm N n : Nat} {g : Nat → Option Nat} {D : DataW Unit} (ho : w.ownsMap Tryz.prog 3 ptrR bm n D) (hk : ∀ kl, Maps.has D kl = true → ∃ i : Nat, i < N ∧ kl = .int .i64 i) (hh : ∀ i : Nat, Maps.has D (.int .i64 i) = (g i).isSome) : Maps.size D ≤ N ∧ w.ownsMap Tryz.prog 3 ptrR bm N D := by
  have h1 := (keysOf_perm_of ho hk hh).length_eq
  have h2 : (keysOf g N).length ≤ N := by
    unfold keysOf
    rw [List.length_map]
    exact Nat.le_trans (List.length_filter_le _ _) (by simp)
  obtain ⟨es, c, hb, F, hs, rfl⟩ := ho
  have h3 : Maps.size (DataW.map ((es.toList.map (WideElems.rg Tryz.prog 3 ptrR)).foldr DataW.insert [])) = es.size := by
    rw [Maps.size_eq, length_sorted]; simp
  have h4 : Maps.size (DataW.map ((es.toList.map (WideElems.rg Tryz.prog 3 ptrR)).foldr DataW.insert [])) ≤ N := by
    have : (intKeys (DataW.map ((es.toList.map (WideElems.rg Tryz.prog 3 ptrR)).foldr DataW.insert []))).length = Maps.size (DataW.map ((es.toList.map (WideElems.rg Tryz.prog 3 ptrR)).foldr DataW.insert [])) := by
      simp [intKeys, Maps.size]
    omega
  exact ⟨h4, es, c, hb, F, by omega, rfl⟩
theorem MapIs.size {w : World} {bm N : Nat} {g : Nat → Option Nat} {D : DataW Unit} (h : MapIs w bm g N D) : Maps.size D ≤ N := (size_le_of h.own h.keys h.have_).1
theorem wf_nat {i : Nat} (h : i ≤ 9223372036854775807) : (Lit.int .i64 (i : Int)).wf = true := WalkArith.wf_i64 (by omega)

theorem MapAt.kept {w w' : World} {bm N : Nat} {g : Nat → Option Nat} (h : MapAt w bm g N) (hb : w'.heap[bm]? = w.heap[bm]?) : MapAt w' bm g N := by
  obtain ⟨D, ⟨es, c, h1, h2⟩, h3, h4, h5⟩ := h
  exact ⟨D, ⟨es, c, hb.trans h1, h2⟩, h3, h4, h5⟩
theorem MapAt.made (w : World) (N : Nat) : MapAt (w.alloc (.map #[] 0)) w.heap.size (fun _ => none) N :=
  ⟨.map [], (World.ownsMap_made w _ _ _).mono (Nat.zero_le _), fun _ => rfl, fun kl h => by simp [Maps.has] at h, fun _ => rfl⟩

/-- A line's look-up. -/
theorem wpList_lookup_map (w : World) {ops : Array Oper} {rest : List Oper} {o : Oper} {a : Act} {Q : Exit → Act → World → Prop}
    (hg : o.guard = none) (m x : Operand) (hop : o.op = Op.lookup 52 m x false) (bm : Nat) (g : Nat → Option Nat) (N : Nat)
    (hm : a.eval m = .map (some bm)) (h : MapAt w bm g N) (i : Nat) (hi : i ≤ 9223372036854775807) (hx : a.eval x = .int .i64 i)
    (hK : wpList Tryz.prog ops Q rest (a.put o.dst (ptrV (g i))) w) : wpList Tryz.prog ops Q (o :: rest) a w := by
  refine wpList_plain hg fun K' hK' => ?_
  obtain ⟨D, h⟩ := h
  obtain ⟨v, ps, hrun, hv⟩ := h.own.lookup law3 Tryz.underlying52 (z := .pointer none) (Tryz.zeroValue75 _) (zd := ptrD none) (zp := []) rfl (keyOf_int_mk Tryz.underlying3 (wf_nat hi))
  obtain ⟨o', rfl, e⟩ := ptrR_inv hv
  rw [h.item i] at e
  simp only [Prod.mk.injEq] at e
  rw [ptrD_inj e.1] at hK
  unfold Oper.wp
  simp [execOp, hop, hm, hx, hrun, Result.andThen]
  exact hK' _ _ hK

def laid (g : Nat → Option Nat) (i : Nat) (v : Option Nat) : Nat → Option Nat := fun j => if j = i then v else g j

/-- A line is laid into the map. -/
theorem wpList_mapUpdate_map (w : World) {ops : Array Oper} {rest : List Oper} {o : Oper} {a : Act} {Q : Exit → Act → World → Prop}
    (hg : o.guard = none) (m x v : Operand) (hop : o.op = Op.mapUpdate 52 m x v) (bm : Nat) (g : Nat → Option Nat) (N : Nat)
    (hm : a.eval m = .map (some bm)) (h : MapAt w bm g N) (hN : N ≤ 4096) (i l : Nat) (hi : i < N) (hx : a.eval x = .int .i64 i) (hv : a.eval v = .pointer (some ⟨l, 0, none⟩))
    (hK : ∀ w', MapAt w' bm (laid g i (some l)) N → w.grownBy w' (some bm) → wpList Tryz.prog ops Q rest (a.put o.dst undef) w') : wpList Tryz.prog ops Q (o :: rest) a w := by
  obtain ⟨D, h⟩ := h
  refine wpList_mapUpdate_own w hg m x v 52 hop 3 75 law3 Tryz.underlying52 ptrR bm N D hm h.own (by unfold maxLen; omega) _ _ (.int .i64 i) hx hv (keyOf_int_mk Tryz.underlying3 (wf_nat (by omega))) (ptrD (some l)) [] rfl (fun w' h1 h2 => hK w' ?_ h2)
  have hkl : WideAt.IsKeyLit (.int .i64 (i : Int)) := law3.key (keyOf_int_mk Tryz.underlying3 (wf_nat (by omega)))
  have hk : ∀ kl, Maps.has (D.put (.int .i64 i) (ptrD (some l))) kl = true → ∃ j : Nat, j < N ∧ kl = .int .i64 j := by
    intro kl hh
    by_cases e : kl = .int .i64 i
    · exact ⟨i, hi, e⟩
    · rw [has_put_other e] at hh; exact h.keys kl hh
  have hh : ∀ j : Nat, Maps.has (D.put (.int .i64 i) (ptrD (some l))) (.int .i64 j) = (laid g i (some l) j).isSome := by
    intro j
    by_cases e : j = i
    · subst e; rw [has_put_same h.own.isMap hkl]; simp [laid]
    · rw [has_put_other (by simp only [ne_eq, Lit.int.injEq, true_and]; omega), h.have_ j]; simp [laid, e]
  refine ⟨_, (size_le_of h1 hk hh).2, fun j => ?_, hk, hh⟩
  by_cases e : j = i
  · subst e; rw [atKey_put_same h.own.isMap hkl]; simp [laid]
  · rw [atKey_put_other (by simp only [ne_eq, Lit.int.injEq, true_and]; omega), h.item j]; simp [laid, e]

/-- 'clear(m)'. -/
theorem run_clear_map {w : World} {bm N : Nat} {g : Nat → Option Nat} (h : MapAt w bm g N) (ty : TypeId) :
    ∃ w', (Builtin.clear_ #[52] ty #[.map (some bm)]).run Tryz.prog w = .ok (.tuple #[]) w' ∧ MapAt w' bm (fun _ => none) N ∧ w.grownBy w' (some bm) := by
  obtain ⟨es, c, hb⟩ := h.obj
  have hrun : (Builtin.clear_ #[52] ty #[.map (some bm)]).run Tryz.prog w = .ok (.tuple #[]) (ChangeMaps.setBlock w bm (.map #[] c)) := by
    simp [Builtin.clear_, run_underlying Tryz.underlying52, MapKept.run_getObj_map hb, MapKept.run_setObj_map _ hb, Result.andThen, ChangeMaps.setBlock]
  refine ⟨_, hrun, ⟨.map [], ⟨#[], c, ChangeMaps.heap_setBlock_same hb _, ⟨by simp, MapKept.stamped_empty c, by simp⟩, Nat.zero_le _, rfl⟩, fun _ => rfl, fun kl h => by simp [Maps.has] at h, fun _ => rfl⟩, ⟨rfl, rfl, rfl, by simp [ChangeMaps.setBlock], fun i _ hi => ChangeMaps.heap_setBlock_other hb _ (fun e => hi (by rw [e]))⟩⟩
end Go.Proofs.YtgiippbjieecmaaGreat
/- A range over a map from line numbers to lines, under way. -/
namespace Go.Proofs.YtgiippbjieecmaaGreat
set_option maxRecDepth 100000
open Go.RowKit Go.Maps

/-- Block r is an iterator over the map at block bm, which holds g's lines; 'left i': is line i still to come? -/
def Rng (w : World) (bm r : Nat) (g : Nat → Option Nat) (N : Nat) (left : Nat → Bool) : Prop :=
  ∃ D lf cnt, w.ranges Tryz.prog 3 ptrR bm r N D lf cnt ∧ MapIs w bm g N D ∧ (∀ i : Nat, lf (.int .i64 i) = left i) ∧ ∀ kl, lf kl = true → Maps.has D kl = true

theorem Rng.map {w : World} {bm r N : Nat} {g : Nat → Option Nat} {left : Nat → Bool} (h : Rng w bm r g N left) : MapAt w bm g N := by
  obtain ⟨D, _, _, _, h, _⟩ := h; exact ⟨D, h⟩
theorem Rng.ne {w : World} {bm r N : Nat} {g : Nat → Option Nat} {left : Nat → Bool} (h : Rng w bm r g N left) : r ≠ bm := by
  obtain ⟨D, _, _, h, _⟩ := h; exact h.ne
theorem Rng.lt {w : World} {bm r N : Nat} {g : Nat → Option Nat} {left : Nat → Bool} (h : Rng w bm r g N left) : r < w.heap.size := by
  obtain ⟨D, _, _, h, _⟩ := h; exact h.lt
theorem Rng.obj {w : World} {bm r N : Nat} {g : Nat → Option Nat} {left : Nat → Bool} (h : Rng w bm r g N left) : ∃ a b c d, w.heap[r]? = some (.mapIter a b c d) := by
  obtain ⟨D, _, _, ⟨es, clock, since, seen, c0, _, _, _, _, hr, _⟩, _⟩ := h; exact ⟨_, _, _, _, hr⟩
theorem Rng.has {w : World} {bm r N : Nat} {g : Nat → Option Nat} {left : Nat → Bool} (h : Rng w bm r g N left) {i : Nat} (hi : left i = true) : ∃ l, g i = some l := by
  obtain ⟨D, lf, cnt, _, hm, hl, hh⟩ := h
  have h1 := hh (.int .i64 i) (by rw [hl]; exact hi)
  rw [hm.have_ i] at h1
  exact Option.isSome_iff_exists.1 h1
theorem Rng.kept {w w' : World} {bm r N : Nat} {g : Nat → Option Nat} {left : Nat → Bool} (h : Rng w bm r g N left) (hb : w'.heap[bm]? = w.heap[bm]?) (hr : w'.heap[r]? = w.heap[r]?) : Rng w' bm r g N left ∧ w'.rangeLeft bm r = w.rangeLeft bm r := by
  obtain ⟨D, lf, cnt, ⟨es, clock, since, seen, c0, h1, F, hs, hD, h2, rest⟩, ⟨⟨es', c', h3, h4⟩, h5, h6, h7⟩, hl, hh⟩ := h
  refine ⟨⟨D, lf, cnt, ⟨es, clock, since, seen, c0, hb.trans h1, F, hs, hD, hr.trans h2, rest⟩, ⟨⟨es', c', hb.trans h3, h4⟩, h5, h6, h7⟩, hl, hh⟩, ?_⟩
  simp only [World.rangeLeft, hb, hr]

theorem wpList_range_map (w : World) {ops : Array Oper} {rest : List Oper} {o : Oper} {a : Act} {Q : Exit → Act → World → Prop} (hg : o.guard = none) (m : Operand) (hop : o.op = Op.range 52 m) (bm : Nat) (g : Nat → Option Nat) (N : Nat)
    (hm : a.eval m = .map (some bm)) (h : MapAt w bm g N)
    (hK : ∀ w', Rng w' bm w.heap.size g N (fun i => (g i).isSome) → w.grownBy w' none → w'.heap.size = w.heap.size + 1 → wpList Tryz.prog ops Q rest (a.put o.dst (.pointer (some ⟨w.heap.size, 0, none⟩))) w') :
    wpList Tryz.prog ops Q (o :: rest) a w := by
  obtain ⟨D, h⟩ := h
  refine wpList_range_own w hg m 52 hop 3 75 law3 Tryz.underlying52 ptrR bm N D hm h.own (fun w' h1 h2 h3 => hK w' ⟨D, _, _, h1, ⟨h1.owns, h.item, h.keys, h.have_⟩, h.have_, fun _ h => h⟩ h2 h3)

theorem strike_nat (i j : Nat) (lf : Lit → Bool) (left : Nat → Bool) (hl : ∀ i : Nat, lf (.int .i64 i) = left i) (hi : i ≤ 9223372036854775807) :
    (lf (.int .i64 (j : Int)) && !(Lit.int .i64 (j : Int)).sameKey (.int .i64 (i : Int))) = (left j && (j != i)) := by
  rw [hl]
  congr 1
  by_cases e : j = i
  · subst e
    rw [WideAt.sameKey_self (law3.key (keyOf_int_mk Tryz.underlying3 (wf_nat hi)))]
    simp
  · rw [sameKey_ne (by simp only [ne_eq, Lit.int.injEq, true_and]; omega)]
    simp [e]

/-- The step. -/
theorem wpList_next_map (w : World) {ops : Array Oper} {rest : List Oper} {o : Oper} {a : Act} {Q : Exit → Act → World → Prop} (hg : o.guard = none) (it : Operand) (hop : o.op = Op.next it false) (bm r : Nat) (g : Nat → Option Nat) (N : Nat) (left : Nat → Bool) (hN : N ≤ 4096)
    (hit : a.eval it = .pointer (some ⟨r, 0, none⟩)) (h : Rng w bm r g N left)
    (hDone : (∀ i, left i = false) → wpList Tryz.prog ops Q rest (a.put o.dst (.tuple #[.bool false])) w)
    (hMore : ∀ (i l : Nat) (w' : World), g i = some l → i < N → left i = true → Rng w' bm r g N (fun j => left j && (j != i)) → w'.rangeLeft bm r < w.rangeLeft bm r → w.grownBy w' (some r) → w'.heap.size = w.heap.size →
      (Instr.entry (.pointer (some ⟨r, 0, none⟩))).run Tryz.prog w' = .ok (.tuple #[.int .i64 i, .pointer (some ⟨l, 0, none⟩)]) w' → wpList Tryz.prog ops Q rest (a.put o.dst (.tuple #[.bool true, .int .i64 i, .pointer (some ⟨l, 0, none⟩)])) w') :
    wpList Tryz.prog ops Q (o :: rest) a w := by
  obtain ⟨D, lf, cnt, hrg, hm, hl, hh⟩ := h
  refine wpList_next_ranges w hg it hop 3 law3 ptrR (Value.int .i64) ptrV (fun key kl hkey => by obtain ⟨x, rfl, _⟩ := Maps.keyOf_int_inv Tryz.underlying3 hkey; exact ⟨x, rfl⟩) (fun v y hv => by obtain ⟨c, rfl, _⟩ := ptrR_inv hv; exact ⟨c, rfl⟩)
    bm r N D lf cnt hit hrg (fun _ h0 => hDone (fun i => by rw [← hl]; exact h0 _)) (fun x c kl y w' cnt' hkey hlk hv hat hrg1 hlt hgr hsz hen => ?_)
  obtain ⟨x', ex, rfl, hwx⟩ := Maps.keyOf_int_inv Tryz.underlying3 hkey
  cases ex
  obtain ⟨i, hi, e⟩ := hm.keys _ (hh _ hlk)
  simp only [Lit.int.injEq, true_and] at e
  subst e
  have hs := hm.have_ i
  rw [hh _ hlk] at hs
  obtain ⟨l, hgl⟩ := Option.isSome_iff_exists.1 hs.symm
  obtain ⟨c', ec, ey⟩ := ptrR_inv hv
  have hcc : c = c' := by cases c <;> cases c' <;> simp [ptrV] at ec ⊢; exact ec
  subst hcc
  have h1 := hat (ptrD none)
  rw [hm.item i, ey] at h1
  have h2 := ptrD_inj h1
  rw [hgl] at h2
  subst h2
  refine hMore i l w' hgl hi (by rw [← hl]; exact hlk) ⟨D, _, cnt', hrg1, ⟨hrg1.owns, hm.item, hm.keys, hm.have_⟩, fun j => strike_nat i j lf left hl (by omega), fun kl hk => hh kl (by simp only [Bool.and_eq_true] at hk; exact hk.1)⟩ (by rw [hrg1.left_eq, hrg.left_eq]; exact hlt) hgr hsz hen

theorem wpList_delete_map (w : World) {ops : Array Oper} {rest : List Oper} {o : Oper} {a : Act} {Q : Exit → Act → World → Prop} (hg : o.guard = none) (m x : Operand) (hop : o.op = Op.call { callee := Callee.builtin Builtin.delete, args := #[m, x], argTypes := #[52, 3] })
    (bm r : Nat) (g : Nat → Option Nat) (N : Nat) (left : Nat → Bool) (hm : a.eval m = .map (some bm)) (h : Rng w bm r g N left) (i : Nat) (hi : i ≤ 9223372036854775807) (hx : a.eval x = .int .i64 i)
    (hK : ∀ w', Rng w' bm r (laid g i none) N (fun j => left j && (j != i)) → w'.rangeLeft bm r ≤ w.rangeLeft bm r → w.grownBy w' (some bm) → w'.heap.size = w.heap.size → wpList Tryz.prog ops Q rest (a.put o.dst (.tuple #[])) w') :
    wpList Tryz.prog ops Q (o :: rest) a w := by
  obtain ⟨D, lf, cnt, hrg, hmi, hl, hh⟩ := h
  refine wpList_delete_ranges w hg m x 52 3 hop 75 law3 Tryz.underlying52 ptrR bm r N D lf cnt hm hrg _ _ hx (keyOf_int_mk Tryz.underlying3 (wf_nat hi)) (fun w' cnt' h1 h2 h3 => ?_)
  have hkl : WideAt.IsKeyLit (.int .i64 (i : Int)) := law3.key (keyOf_int_mk Tryz.underlying3 (wf_nat hi))
  have hgr : w.grownBy w' (some bm) := by
    obtain ⟨es, c, es', c', hb, rfl⟩ := h3
    exact ⟨rfl, rfl, rfl, by simp [ChangeMaps.setBlock], fun i _ hi => ChangeMaps.heap_setBlock_other hb _ (fun e => hi (by rw [e]))⟩
  have hsz : w'.heap.size = w.heap.size := by
    obtain ⟨es, c, es', c', hb, rfl⟩ := h3
    simp [ChangeMaps.setBlock]
  refine hK w' ⟨_, _, cnt', h1, ⟨h1.owns, fun j => ?_, fun kl hk => ?_, fun j => ?_⟩, fun j => strike_nat i j lf left hl hi, fun kl hk => ?_⟩ (by rw [h1.left_eq, hrg.left_eq]; exact h2) hgr hsz
  · by_cases e : j = i
    · subst e; rw [atKey_del_same]; simp [laid]
    · rw [atKey_del_other (by simp only [ne_eq, Lit.int.injEq, true_and]; omega), hmi.item j]; simp [laid, e]
  · by_cases e : kl = .int .i64 i
    · subst e; rw [has_del_same] at hk; cases hk
    · rw [has_del_other e] at hk; exact hmi.keys kl hk
  · by_cases e : j = i
    · subst e; rw [has_del_same]; simp [laid]
    · rw [has_del_other (by simp only [ne_eq, Lit.int.injEq, true_and]; omega), hmi.have_ j]; simp [laid, e]
  · simp only [Bool.and_eq_true] at hk
    by_cases e : kl = .int .i64 i
    · subst e; rw [WideAt.sameKey_self hkl] at hk; simp at hk
    · rw [has_del_other e]; exact hh kl hk.1
end Go.Proofs.YtgiippbjieecmaaGreat
