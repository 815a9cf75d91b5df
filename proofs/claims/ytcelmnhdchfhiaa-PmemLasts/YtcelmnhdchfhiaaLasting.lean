/- What was stored, flushed and fenced lasts: plain facts; truths that came in, opened. -/
import Derived.Test.YtcelmnhdchfhiaaStepped
namespace Go.Proofs.Ytcelmnhdchfhiaa
open Go.RowKit Go.ChangeShapes Go.WideShapes Go.ChangeAt
set_option linter.unusedVariables false

theorem text_eq {a b : List Int} (ha : Bytes a) (hb : Bytes b) : ((strOfNums a).toList == (strOfNums b).toList) = decide (a = b) := by
  rw [Lib.strOfNums_toList, Lib.strOfNums_toList]
  have key : a.map (fun z : Int => z.toNat.toUInt8) = b.map (fun z : Int => z.toNat.toUInt8) → a = b := by
    intro h
    apply List.ext_getElem?
    intro i
    have h1 := congrArg (·[i]?) h
    simp only [List.getElem?_map] at h1
    rcases e1 : a[i]? with _ | x <;> rcases e2 : b[i]? with _ | y <;> rw [e1, e2] at h1 <;> simp only [Option.map_some, Option.map_none, Option.some.injEq, reduceCtorEq] at h1 ⊢
    have hx := ha x (List.mem_of_getElem? e1)
    have hy := hb y (List.mem_of_getElem? e2)
    have h2 := congrArg UInt8.toNat h1
    simp at h2
    omega
  by_cases h : a = b
  · simp [h]
  · rw [decide_eq_false h]
    simp only [beq_eq_false_iff_ne]
    exact fun e => h (key e)

theorem open_truths {H : Type} {enc : TypeId × Value → H} {W : World} {a : Option Addr} {len cap : Nat} {d : DataW H} {p : List MemPlace} (h : DataW.Trod enc Try.prog W 0 (fun _ => true) true 36 (.slice a len cap) d p) : ∃ bs, Slb W a len bs ∧ len ≤ 9223372036854775807 := by
  obtain ⟨fuel, hf⟩ := h
  obtain ⟨a', len', cap', bs, e, h1, h2⟩ := open_bools_cell hf
  simp only [Value.slice.injEq] at e
  obtain ⟨rfl, rfl, rfl⟩ := e
  exact ⟨bs, h1, h2⟩

theorem act_n (S : St) (A : ActD) : (actS S A).n = S.n := by
  have h := fun a n => (stepS_same S a n).2.1
  unfold actS
  split
  · split
    · exact ((soilTo_seen _ _ _).2.1).trans (h _ _)
    · exact h _ _
  · split
    · split <;> exact h _ _
    · split
      · split <;> exact h _ _
      · split
        · rfl
        · split <;> rfl
theorem does_n {f : St → St} (hf : ∀ T, (f T).n = T.n) (S : St) (a n : Int) : (Does f S a n).n = S.n := by
  have h := (stepS_same S a n).2.1
  unfold Does
  split
  · exact (hf _).trans h
  · exact h

/-- Bytes ys from place i on are there, and their lines are not dirty. -/
structure Sure (T : St) (i : Nat) (ys : List Int) : Prop where
  fit : i + ys.length ≤ 64 * T.n
  seen : (T.seen.drop i).take ys.length = ys
  none : ∀ j, lineA i ys.length ≤ j → j < lineB i ys.length → T.lin j = Option.none
theorem sure_of {S : St} (hok : S.Ok) {i : Nat} {ys : List Int} (h : i + ys.length ≤ S.seen.length) (a1 n1 a2 n2 a3 n3 : Int) :
    Sure (fenceS (stepS (flushS (stepS (storeS (stepS S a1 n1) i ys) a2 n2) (lineA i ys.length) (lineB i ys.length)) a3 n3)) i ys := by
  obtain ⟨e1, e2, e3⟩ := stepS_same S a1 n1
  have hs : (storeS (stepS S a1 n1) i ys).seen = splice S.seen i ys := by unfold storeS; simp only [e1]
  have hn : (storeS (stepS S a1 n1) i ys).n = S.n := ((soilTo_seen _ _ _).2.1).trans e2
  generalize storeS (stepS S a1 n1) i ys = S1 at *
  obtain ⟨f1, f2, f3⟩ := stepS_same S1 a2 n2
  generalize stepS S1 a2 n2 = S2 at *
  obtain ⟨g1, g2, g3⟩ := stepS_same (flushS S2 (lineA i ys.length) (lineB i ys.length)) a3 n3
  generalize stepS (flushS S2 (lineA i ys.length) (lineB i ys.length)) a3 n3 = S3 at *
  have hseen : (fenceS S3).seen = splice S.seen i ys := by
    show S3.seen = _
    rw [g1]
    show S2.seen = _
    rw [f1, hs]
  refine ⟨?_, ?_, fun j h1 h2 => ?_⟩
  · show _ ≤ 64 * S3.n
    rw [g2]
    show _ ≤ 64 * S2.n
    rw [f2, hn, ← hok.len]
    exact h
  · rw [hseen]
    have hl : (S.seen.take i).length = i := by simp; omega
    unfold splice
    rw [List.drop_append, List.drop_of_length_le (by omega), List.nil_append, hl, Nat.sub_self, List.drop_zero, List.take_append_of_le_length (Nat.le_refl _), List.take_of_length_le (Nat.le_refl _)]
  · show (if flushed S3 j = true ∧ (fun _ => false) j = false then Option.none else S3.lin j) = Option.none
    have e : S3.lin j = (S2.lin j).map fun x => (x.1, true) := by
      rw [g3]
      show (S2.lin j).map (fun x => (x.1, if lineA i ys.length ≤ j ∧ j < lineB i ys.length ∧ (fun _ => false) j = false then true else x.2)) = _
      congr 1
      funext x
      rw [if_pos ⟨h1, h2, rfl⟩]
    cases q : S2.lin j with
    | none =>
      rw [q] at e
      rw [e]
      split <;> rfl
    | some x =>
      rw [q] at e
      have : flushed S3 j = true := by unfold flushed; rw [e]; rfl
      rw [if_pos ⟨this, rfl⟩]
theorem flat_get {f : Nat → List Int} (n : Nat) (h : ∀ i, i < n → (f i).length = 64) {q : Nat} (hq : q < 64 * n) : (flat f n)[q]? = (f (q / 64))[q % 64]? := by
  induction n with
  | zero => omega
  | succ n ih =>
    have hl := flat_len n (fun i hi => h i (by omega))
    simp only [flat]
    by_cases e : q < 64 * n
    · rw [List.getElem?_append_left (by omega)]
      exact ih (fun i hi => h i (by omega)) e
    · rw [List.getElem?_append_right (by omega), hl]
      have e1 : q / 64 = n := by omega
      rw [e1]
      congr 1
      omega
theorem sure_crash {T : St} (hok : T.Ok) {i : Nat} {ys : List Int} (h : Sure T i ys) (keep : List Bool) (k : Nat) : ((crashP T keep k).drop i).take ys.length = ys := by
  have hf := h.fit
  have hl := hok.len
  have hcl := crashP_len hok keep k
  refine Eq.trans ?_ h.seen
  apply List.ext_getElem?
  intro t
  rw [List.getElem?_take, List.getElem?_take]
  by_cases ht : t < ys.length
  · rw [if_pos ht, if_pos ht, List.getElem?_drop, List.getElem?_drop]
    have hq : i + t < 64 * T.n := by omega
    unfold crashP
    rw [flat_get T.n (crashP_lenAt hok keep k) hq]
    have e2 : T.seen[i + t]? = (lineAt T.seen ((i + t) / 64))[(i + t) % 64]? := by
      conv => lhs; rw [← flat_same T.seen T.n hl]
      exact flat_get T.n (fun j hj => lineAt_len hok hj) hq
    rw [e2]
    congr 1
    split
    · have : T.lin ((i + t) / 64) = Option.none := h.none _ (by unfold lineA; rw [if_neg (by omega)]; omega) (by unfold lineB; rw [if_neg (by omega)]; omega)
      unfold lastOf
      rw [this]
    · rfl
  · rw [if_neg ht, if_neg ht]
theorem crash_line {T : St} (hok : T.Ok) (keep : List Bool) (k : Nat) {q : Nat} (hq : q < T.n) : lineAt (crashP T keep k) q = lineAt (lasts T) q ∨ lineAt (crashP T keep k) q = lineAt T.seen q := by
  have h1 : lineAt (crashP T keep k) q = _ := lineAt_flat T.n q (crashP_lenAt hok keep k) hq
  have h2 : lineAt (lasts T) q = _ := lineAt_flat T.n q (fun i hi => lastOf_len hok hi) hq
  rw [h1, h2]
  split
  · exact Or.inl rfl
  · exact Or.inr rfl
theorem lasts_clean {n : Nat} {zs : List Int} {ar : Int} {dn : Bool} (h : zs.length = 64 * n) : lasts { n := n, seen := zs, lin := fun _ => none, armed := ar, down := dn } = zs := flat_same zs n h
theorem lasts_crash {T : St} (hok : T.Ok) (keep : List Bool) : lasts (crashS T keep) = (crashS T keep).seen := lasts_clean (crashP_len hok keep _)
theorem dirty_crash (T : St) (keep : List Bool) : dirtyL (crashS T keep) = [] := by
  unfold dirtyL crashS
  simp
theorem part_line {w : World} {b off n cap q : Nat} {zs : List Int} (h : Sl .u8 w (some ⟨b, off, none⟩) n cap zs) (hi : 64 * q + 64 ≤ n) : Sl .u8 w (some ⟨b, off + 64 * q, none⟩) 64 (cap - 64 * q) (lineAt zs q) := by
  have hr := h.room
  have := h.sliced (64 * q) (64 * q + 64) (by omega) hi
  rw [if_neg (by omega), show 64 * q + 64 - 64 * q = 64 by omega] at this
  simpa [Addr.add_lit, lineAt] using this
theorem lasts_bytes {S : St} (h : S.Ok) : Bytes (lasts S) := by
  have key : ∀ n, Bytes (flat (lastOf S) n) := by
    intro n
    induction n with
    | zero => intro z hz; simp [flat] at hz
    | succ n ih => exact ih.append (lastOf_bytes h)
  exact key S.n
end Go.Proofs.Ytcelmnhdchfhiaa
