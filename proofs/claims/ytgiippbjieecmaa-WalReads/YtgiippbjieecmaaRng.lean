/- A range over a map from line numbers to lines, under way. -/
import Derived.Test.YtgiippbjieecmaaDmap
namespace Go.Proofs.Ytgiippbjieecmaa
set_option maxRecDepth 100000
open Go.RowKit Go.Maps

/-- Block r is an iterator over the map at block bm, which holds g's lines; 'left i': is line i still to come? -/
def Rng (w : World) (bm r : Nat) (g : Nat → Option Nat) (N : Nat) (left : Nat → Bool) : Prop :=
  ∃ D lf cnt, w.ranges Try.prog 3 ptrR bm r N D lf cnt ∧ MapIs w bm g N D ∧ (∀ i : Nat, lf (.int .i64 i) = left i) ∧ ∀ kl, lf kl = true → Maps.has D kl = true

theorem Rng.map {w : World} {bm r N : Nat} {g : Nat → Option Nat} {left : Nat → Bool} (h : Rng w bm r g N left) : MapAt w bm g N := by
  obtain ⟨D, _, _, _, h, _⟩ := h; exact ⟨D, h⟩
theorem Rng.ne {w : World} {bm r N : Nat} {g : Nat → Option Nat} {left : Nat → Bool} (h : Rng w bm r g N left) : r ≠ bm := by
  obtain ⟨D, _, _, h, _⟩ := h; exact h.ne
theorem Rng.lt {w : World} {bm r N : Nat} {g : Nat → Option Nat} {left : Nat → Bool} (h : Rng w bm r g N left) : r < w.heap.size := by
  obtain ⟨D, _, _, h, _⟩ := h; exact h.lt
theorem Rng.obj {w : World} {bm r N : Nat} {g : Nat → Option Nat} {left : Nat → Bool} (h : Rng w bm r g N left) : ∃ a b c d, w.heap[r]? = some (.mapIter a b c d) := by
  obtain ⟨D, _, _, ⟨es, clock, since, seen, c0, _, _, _, _, hr, _⟩, _⟩ := h; exact ⟨_, _, _, _, hr⟩
theorem Rng.has {w : World} {bm r N : Nat} {g : Nat → Option Nat} {left : Nat → Bool} (h : Rng w bm r g N left) {i : Nat} (hi : left i = true) : ∃ l, g i = some l := by
  obtain ⟨D, lf, cnt, _, hm, hl, hh⟩ := h
  have h1 := hh (.int .i64 i) (by rw [hl]; exact hi)
  rw [hm.have_ i] at h1
  exact Option.isSome_iff_exists.1 h1
theorem Rng.kept {w w' : World} {bm r N : Nat} {g : Nat → Option Nat} {left : Nat → Bool} (h : Rng w bm r g N left) (hb : w'.heap[bm]? = w.heap[bm]?) (hr : w'.heap[r]? = w.heap[r]?) : Rng w' bm r g N left ∧ w'.rangeLeft bm r = w.rangeLeft bm r := by
  obtain ⟨D, lf, cnt, ⟨es, clock, since, seen, c0, h1, F, hs, hD, h2, rest⟩, ⟨⟨es', c', h3, h4⟩, h5, h6, h7⟩, hl, hh⟩ := h
  refine ⟨⟨D, lf, cnt, ⟨es, clock, since, seen, c0, hb.trans h1, F, hs, hD, hr.trans h2, rest⟩, ⟨⟨es', c', hb.trans h3, h4⟩, h5, h6, h7⟩, hl, hh⟩, ?_⟩
  simp only [World.rangeLeft, hb, hr]

theorem wpList_range_map (w : World) {ops : Array Oper} {rest : List Oper} {o : Oper} {a : Act} {Q : Exit → Act → World → Prop} (hg : o.guard = none) (m : Operand) (hop : o.op = Op.range 75 m) (bm : Nat) (g : Nat → Option Nat) (N : Nat)
    (hm : a.eval m = .map (some bm)) (h : MapAt w bm g N)
    (hK : ∀ w', Rng w' bm w.heap.size g N (fun i => (g i).isSome) → w.grownBy w' none → w'.heap.size = w.heap.size + 1 → wpList Try.prog ops Q rest (a.put o.dst (.pointer (some ⟨w.heap.size, 0, none⟩))) w') :
    wpList Try.prog ops Q (o :: rest) a w := by
  obtain ⟨D, h⟩ := h
  refine wpList_range_own w hg m 75 hop 3 86 law3 Try.underlying75 ptrR bm N D hm h.own (fun w' h1 h2 h3 => hK w' ⟨D, _, _, h1, ⟨h1.owns, h.item, h.keys, h.have_⟩, h.have_, fun _ h => h⟩ h2 h3)

theorem strike_nat (i j : Nat) (lf : Lit → Bool) (left : Nat → Bool) (hl : ∀ i : Nat, lf (.int .i64 i) = left i) (hi : i ≤ 9223372036854775807) :
    (lf (.int .i64 (j : Int)) && !(Lit.int .i64 (j : Int)).sameKey (.int .i64 (i : Int))) = (left j && (j != i)) := by
  rw [hl]
  congr 1
  by_cases e : j = i
  · subst e
    rw [WideAt.sameKey_self (law3.key (keyOf_int_mk Try.underlying3 (wf_nat hi)))]
    simp
  · rw [sameKey_ne (by simp only [ne_eq, Lit.int.injEq, true_and]; omega)]
    simp [e]

/-- The step. -/
theorem wpList_next_map (w : World) {ops : Array Oper} {rest : List Oper} {o : Oper} {a : Act} {Q : Exit → Act → World → Prop} (hg : o.guard = none) (it : Operand) (hop : o.op = Op.next it false) (bm r : Nat) (g : Nat → Option Nat) (N : Nat) (left : Nat → Bool) (hN : N ≤ 4096)
    (hit : a.eval it = .pointer (some ⟨r, 0, none⟩)) (h : Rng w bm r g N left)
    (hDone : (∀ i, left i = false) → wpList Try.prog ops Q rest (a.put o.dst (.tuple #[.bool false])) w)
    (hMore : ∀ (i l : Nat) (w' : World), g i = some l → i < N → left i = true → Rng w' bm r g N (fun j => left j && (j != i)) → w'.rangeLeft bm r < w.rangeLeft bm r → w.grownBy w' (some r) → w'.heap.size = w.heap.size →
      (Instr.entry (.pointer (some ⟨r, 0, none⟩))).run Try.prog w' = .ok (.tuple #[.int .i64 i, .pointer (some ⟨l, 0, none⟩)]) w' → wpList Try.prog ops Q rest (a.put o.dst (.tuple #[.bool true, .int .i64 i, .pointer (some ⟨l, 0, none⟩)])) w') :
    wpList Try.prog ops Q (o :: rest) a w := by
  obtain ⟨D, lf, cnt, hrg, hm, hl, hh⟩ := h
  refine wpList_next_ranges w hg it hop 3 law3 ptrR (Value.int .i64) ptrV (fun key kl hkey => by obtain ⟨x, rfl, _⟩ := Maps.keyOf_int_inv Try.underlying3 hkey; exact ⟨x, rfl⟩) (fun v y hv => by obtain ⟨c, rfl, _⟩ := ptrR_inv hv; exact ⟨c, rfl⟩)
    bm r N D lf cnt hit hrg (fun _ h0 => hDone (fun i => by rw [← hl]; exact h0 _)) (fun x c kl y w' cnt' hkey hlk hv hat hrg1 hlt hgr hsz hen => ?_)
  obtain ⟨x', ex, rfl, hwx⟩ := Maps.keyOf_int_inv Try.underlying3 hkey
  cases ex
  obtain ⟨i, hi, e⟩ := hm.keys _ (hh _ hlk)
  simp only [Lit.int.injEq, true_and] at e
  subst e
  have hs := hm.have_ i
  rw [hh _ hlk] at hs
  obtain ⟨l, hgl⟩ := Option.isSome_iff_exists.1 hs.symm
  obtain ⟨c', ec, ey⟩ := ptrR_inv hv
  have hcc : c = c' := by cases c <;> cases c' <;> simp [ptrV] at ec ⊢; exact ec
  subst hcc
  have h1 := hat (ptrD none)
  rw [hm.item i, ey] at h1
  have h2 := ptrD_inj h1
  rw [hgl] at h2
  subst h2
  refine hMore i l w' hgl hi (by rw [← hl]; exact hlk) ⟨D, _, cnt', hrg1, ⟨hrg1.owns, hm.item, hm.keys, hm.have_⟩, fun j => strike_nat i j lf left hl (by omega), fun kl hk => hh kl (by simp only [Bool.and_eq_true] at hk; exact hk.1)⟩ (by rw [hrg1.left_eq, hrg.left_eq]; exact hlt) hgr hsz hen

theorem wpList_delete_map (w : World) {ops : Array Oper} {rest : List Oper} {o : Oper} {a : Act} {Q : Exit → Act → World → Prop} (hg : o.guard = none) (m x : Operand) (hop : o.op = Op.call { callee := Callee.builtin Builtin.delete, args := #[m, x], argTypes := #[75, 3] })
    (bm r : Nat) (g : Nat → Option Nat) (N : Nat) (left : Nat → Bool) (hm : a.eval m = .map (some bm)) (h : Rng w bm r g N left) (i : Nat) (hi : i ≤ 9223372036854775807) (hx : a.eval x = .int .i64 i)
    (hK : ∀ w', Rng w' bm r (laid g i none) N (fun j => left j && (j != i)) → w'.rangeLeft bm r ≤ w.rangeLeft bm r → w.grownBy w' (some bm) → w'.heap.size = w.heap.size → wpList Try.prog ops Q rest (a.put o.dst (.tuple #[])) w') :
    wpList Try.prog ops Q (o :: rest) a w := by
  obtain ⟨D, lf, cnt, hrg, hmi, hl, hh⟩ := h
  refine wpList_delete_ranges w hg m x 75 3 hop 86 law3 Try.underlying75 ptrR bm r N D lf cnt hm hrg _ _ hx (keyOf_int_mk Try.underlying3 (wf_nat hi)) (fun w' cnt' h1 h2 h3 => ?_)
  have hkl : WideAt.IsKeyLit (.int .i64 (i : Int)) := law3.key (keyOf_int_mk Try.underlying3 (wf_nat hi))
  have hgr : w.grownBy w' (some bm) := by
    obtain ⟨es, c, es', c', hb, rfl⟩ := h3
    exact ⟨rfl, rfl, rfl, by simp [ChangeMaps.setBlock], fun i _ hi => ChangeMaps.heap_setBlock_other hb _ (fun e => hi (by rw [e]))⟩
  have hsz : w'.heap.size = w.heap.size := by
    obtain ⟨es, c, es', c', hb, rfl⟩ := h3
    simp [ChangeMaps.setBlock]
  refine hK w' ⟨_, _, cnt', h1, ⟨h1.owns, fun j => ?_, fun kl hk => ?_, fun j => ?_⟩, fun j => strike_nat i j lf left hl hi, fun kl hk => ?_⟩ (by rw [h1.left_eq, hrg.left_eq]; exact h2) hgr hsz
  · by_cases e : j = i
    · subst e; rw [atKey_del_same]; simp [laid]
    · rw [atKey_del_other (by simp only [ne_eq, Lit.int.injEq, true_and]; omega), hmi.item j]; simp [laid, e]
  · by_cases e : kl = .int .i64 i
    · subst e; rw [has_del_same] at hk; cases hk
    · rw [has_del_other e] at hk; exact hmi.keys kl hk
  · by_cases e : j = i
    · subst e; rw [has_del_same]; simp [laid]
    · rw [has_del_other (by simp only [ne_eq, Lit.int.injEq, true_and]; omega), hmi.have_ j]; simp [laid, e]
  · simp only [Bool.and_eq_true] at hk
    by_cases e : kl = .int .i64 i
    · subst e; rw [WideAt.sameKey_self hkl] at hk; simp at hk
    · rw [has_del_other e]; exact hh kl hk.1
end Go.Proofs.Ytgiippbjieecmaa
