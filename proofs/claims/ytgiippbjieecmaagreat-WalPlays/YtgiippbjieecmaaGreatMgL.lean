/- StLin · RAb · RPair: these texts, one behind another. -/
import Derived.Test.YtgiippbjieecmaaGreatDoes
import Derived.Test.YtgiippbjieecmaaGreatMgK
/- Lines of a device's datum: what a store turns. -/
namespace Go.Proofs.YtgiippbjieecmaaGreat
set_option maxRecDepth 100000
open Go.RowKit
set_option linter.unusedVariables false

theorem soilTo_lin (T : St) (a k j : Nat) : (soilTo T a k).lin j = if a ≤ j ∧ j < a + k then some (soilL T j) else T.lin j := by
  induction k with
  | zero => rw [if_neg (by omega)]; rfl
  | succ k ih =>
    show (if j = a + k then some (soilL (soilTo T a k) (a + k)) else (soilTo T a k).lin j) = _
    by_cases e : j = a + k
    · subst e
      rw [if_pos rfl, if_pos (by omega)]
      congr 1
      unfold soilL
      rw [ih, if_neg (by omega), (soilTo_seen T a k).1]
    · rw [if_neg e, ih]
      by_cases h : a ≤ j ∧ j < a + k
      · rw [if_pos h, if_pos (by omega)]
      · rw [if_neg h, if_neg (by omega)]
/-- Is line j one of n bytes' from i on? -/
def inL (i n j : Nat) : Prop := lineA i n ≤ j ∧ j < lineB i n
theorem inL_iff (i n j : Nat) : inL i n j ↔ ∃ t, t < n ∧ (i + t) / 64 = j := by
  unfold inL lineA lineB
  by_cases h0 : n = 0
  · subst h0
    simp
  · rw [if_neg h0, if_neg h0]
    constructor
    · rintro ⟨h1, h2⟩
      by_cases h3 : i ≤ 64 * j
      · exact ⟨64 * j - i, by omega, by omega⟩
      · exact ⟨0, by omega, by omega⟩
    · rintro ⟨t, h1, h2⟩
      omega
instance (i n j : Nat) : Decidable (inL i n j) := by unfold inL; infer_instance
theorem inL_succ (i k j : Nat) : inL i (k + 1) j ↔ inL i k j ∨ (i + k) / 64 = j := by
  rw [inL_iff, inL_iff]
  constructor
  · rintro ⟨t, h1, h2⟩
    by_cases e : t = k
    · subst e; exact Or.inr h2
    · exact Or.inl ⟨t, by omega, h2⟩
  · rintro (⟨t, h1, h2⟩ | h)
    · exact ⟨t, by omega, h2⟩
    · exact ⟨k, by omega, h⟩
theorem splice_get3 {L z : List Int} {i : Nat} (h : i + z.length ≤ L.length) (p : Nat) : (splice L i z)[p]? = if i ≤ p ∧ p < i + z.length then z[p - i]? else L[p]? := by
  have hl : (L.take i).length = i := by simp; omega
  unfold splice
  by_cases h1 : p < i
  · rw [List.getElem?_append_left (by omega), List.getElem?_take, if_pos h1, if_neg (by omega)]
  · rw [List.getElem?_append_right (by omega), hl]
    by_cases h2 : p < i + z.length
    · rw [List.getElem?_append_left (by omega), if_pos (by omega)]
    · rw [List.getElem?_append_right (by omega), List.getElem?_drop, if_neg (by omega)]
      congr 1
      omega
/-- A line that is not met stays. -/
theorem lineAt_out {L z : List Int} {i j : Nat} (h : i + z.length ≤ L.length) (hj : ¬ inL i z.length j) : lineAt (splice L i z) j = lineAt L j := by
  apply List.ext_getElem?
  intro t
  unfold lineAt
  rw [List.getElem?_take, List.getElem?_take]
  by_cases ht : t < 64
  · rw [if_pos ht, if_pos ht, List.getElem?_drop, List.getElem?_drop, splice_get3 h, if_neg]
    rintro ⟨h1, h2⟩
    exact hj ((inL_iff i z.length j).2 ⟨64 * j + t - i, by omega, by omega⟩)
  · rw [if_neg ht, if_neg ht]
theorem store_lin (T : St) (i : Nat) (ys : List Int) (j : Nat) : (storeS T i ys).lin j = if inL i ys.length j then some (soilL T j) else T.lin j := by
  show (soilTo T (lineA i ys.length) (lineB i ys.length - lineA i ys.length)).lin j = _
  rw [soilTo_lin]
  have hle : lineA i ys.length ≤ lineB i ys.length := by unfold lineA lineB; split <;> omega
  by_cases e : inL i ys.length j
  · have e' := e
    unfold inL at e'
    rw [if_pos e, if_pos (by omega)]
  · have e' := e
    unfold inL at e'
    rw [if_neg e, if_neg (by omega)]
theorem soil_last (T : St) (j : Nat) : (soilL T j).1 = lastOf T j ∧ (soilL T j).2 = false := by
  unfold soilL lastOf
  cases T.lin j with
  | none => exact ⟨rfl, rfl⟩
  | some x => exact ⟨rfl, rfl⟩
end Go.Proofs.YtgiippbjieecmaaGreat
/- The document's device and pmem's: the same, told otherwise. -/
namespace Go.Proofs.YtgiippbjieecmaaGreat
set_option maxRecDepth 100000
open Go.RowKit
set_option linter.unusedVariables false

structure Ab (S : St) (R : RSt) : Prop where
  n : R.n = S.n
  la : R.lasts = lasts S
  se : R.seen = S.seen
  di : ∀ j, j < S.n → R.dirty.getD j false = (S.lin j).isSome
  fl : ∀ j, j < S.n → R.flushed.getD j false = flushed S j
  ar : R.armed = S.armed
  dn : R.down = S.down
/-- The lists are as long as they must be. -/
structure Len (R : RSt) : Prop where
  l2 : R.dirty.length = R.n
  l3 : R.flushed.length = R.n
theorem ab_ask {S : St} {R : RSt} (h : Ab S R) (hok : S.Ok) (a n : Int) : raskE R a n = checkE S a n := by
  unfold raskE checkE
  rw [h.dn, h.n, hok.len]
theorem ab_step {S : St} {R : RSt} (h : Ab S R) {a n : Int} (hc : checkE S a n = 0) : stepE S a n = (if rstepB R = true then 5 else 0) ∧ Ab (stepS S a n) (rstepS R) := by
  have e1 : rstepB R = decide (S.armed = 1) := by unfold rstepB; rw [h.ar]
  constructor
  · unfold stepE
    rw [if_neg (by omega), e1]
    simp
  · unfold stepS rstepS
    by_cases h0 : S.armed = 0
    · rw [if_pos (Or.inr h0), if_pos (by rw [h.ar]; exact h0)]
      exact h
    · rw [if_neg (by omega), if_neg (by rw [h.ar]; exact h0), h.ar]
      exact ⟨h.n, h.la, h.se, h.di, h.fl, rfl, rfl⟩
theorem ab_new {zs : List Int} (h : zs.length % 64 = 0) : Ab (St.new zs) (RSt.new zs) := by
  have hl : zs.length = 64 * (zs.length / 64) := by omega
  refine ⟨rfl, ?_, rfl, fun j hj => ?_, fun j hj => ?_, rfl, rfl⟩
  · exact (flat_same zs _ hl).symm
  · simp [RSt.new, St.new, List.getD, List.getElem?_replicate]
    split <;> rfl
  · simp [RSt.new, St.new, List.getD, List.getElem?_replicate, flushed]
    split <;> rfl
theorem ab_arm {S : St} {R : RSt} (h : Ab S R) (n : Int) : Ab { S with armed := max n 0 } { R with armed := max n 0 } := ⟨h.n, h.la, h.se, h.di, h.fl, rfl, h.dn⟩
theorem ab_dirty {S : St} {R : RSt} (h : Ab S R) : rdirtyN R R.n = dirtyL S := by
  unfold rdirtyN dirtyL
  rw [h.n]
  congr 1
  refine List.filter_congr fun j hj => ?_
  exact h.di j (by simpa using hj)

theorem getD_set (l : List Bool) (i j : Nat) (v : Bool) (hi : i < l.length) : (l.set i v).getD j false = if j = i then v else l.getD j false := by
  simp only [List.getD, List.getElem?_set]
  by_cases e : i = j
  · subst e
    simp [hi]
  · rw [if_neg e, if_neg (fun h => e h.symm)]
theorem rputs_all {R : RSt} (hl : Len R) {i : Nat} {ys : List Int} (k : Nat) (hk : k ≤ ys.length) (hi : i + ys.length ≤ 64 * R.n) (hs : R.seen.length = 64 * R.n) :
    (rputs R i ys k).lasts = R.lasts ∧ (rputs R i ys k).seen = splice R.seen i (ys.take k) ∧ (rputs R i ys k).dirty.length = R.n ∧ (rputs R i ys k).flushed.length = R.n ∧ (rputs R i ys k).armed = R.armed ∧ (rputs R i ys k).down = R.down ∧
    (∀ j, (rputs R i ys k).dirty.getD j false = if inL i k j then true else R.dirty.getD j false) ∧ (∀ j, (rputs R i ys k).flushed.getD j false = if inL i k j then false else R.flushed.getD j false) := by
  induction k with
  | zero =>
    refine ⟨rfl, splice_zero.symm, hl.l2, hl.l3, rfl, rfl, fun j => ?_, fun j => ?_⟩ <;> rw [if_neg (by rw [inL_iff]; rintro ⟨t, h, _⟩; omega)] <;> rfl
  | succ k ih =>
    obtain ⟨h1, h2, h3, h4, h5, h6, h7, h8⟩ := ih (by omega)
    have hq : (i + k) / 64 < R.n := by omega
    refine ⟨h1, ?_, ?_, ?_, h5, h6, fun j => ?_, fun j => ?_⟩
    · show (rputs R i ys k).seen.set (i + k) (ys.getD k 0) = _
      rw [h2, splice_step (by omega) (by omega)]
    · show ((rputs R i ys k).dirty.set _ _).length = _; rw [List.length_set]; exact h3
    · show ((rputs R i ys k).flushed.set _ _).length = _; rw [List.length_set]; exact h4
    · show ((rputs R i ys k).dirty.set ((i + k) / 64) true).getD j false = _
      rw [getD_set _ _ _ _ (by omega), h7]
      by_cases e : j = (i + k) / 64
      · rw [if_pos e, if_pos ((inL_succ i k j).2 (Or.inr e.symm))]
      · rw [if_neg e]
        by_cases e2 : inL i k j
        · rw [if_pos e2, if_pos ((inL_succ i k j).2 (Or.inl e2))]
        · rw [if_neg e2, if_neg (fun h => by rcases (inL_succ i k j).1 h with h | h; exact e2 h; exact e h.symm)]
    · show ((rputs R i ys k).flushed.set ((i + k) / 64) false).getD j false = _
      rw [getD_set _ _ _ _ (by omega), h8]
      by_cases e : j = (i + k) / 64
      · rw [if_pos e, if_pos ((inL_succ i k j).2 (Or.inr e.symm))]
      · rw [if_neg e]
        by_cases e2 : inL i k j
        · rw [if_pos e2, if_pos ((inL_succ i k j).2 (Or.inl e2))]
        · rw [if_neg e2, if_neg (fun h => by rcases (inL_succ i k j).1 h with h | h; exact e2 h; exact e h.symm)]
theorem ab_store {T : St} {Q : RSt} (h : Ab T Q) (hl : Len Q) (hok : T.Ok) {i : Nat} {ys : List Int} (hi : i + ys.length ≤ 64 * T.n) : Ab (storeS T i ys) (rputs Q i ys ys.length) := by
  have hsl := hok.len
  obtain ⟨h1, h2, h3, h4, h5, h6, h7, h8⟩ := rputs_all hl (ys := ys) (i := i) ys.length (Nat.le_refl _) (by rw [h.n]; exact hi) (by rw [h.se, h.n]; exact hsl)
  obtain ⟨s1, s2, s3, s4⟩ := soilTo_seen T (lineA i ys.length) (lineB i ys.length - lineA i ys.length)
  have hn : (storeS T i ys).n = T.n := s2
  have hseen : (storeS T i ys).seen = splice T.seen i ys := rfl
  refine ⟨(rputs_n _ _ _).trans (h.n.trans hn.symm), ?_, ?_, fun j hj => ?_, fun j hj => ?_, h5.trans (h.ar.trans s3.symm), h6.trans (h.dn.trans s4.symm)⟩
  · rw [h1, h.la]
    unfold lasts
    rw [hn]
    refine flat_congr T.n fun j hj => ?_
    have e := store_lin T i ys j
    by_cases e2 : inL i ys.length j
    · rw [if_pos e2] at e
      conv => rhs; unfold lastOf
      rw [e]
      exact (soil_last T j).1.symm
    · rw [if_neg e2] at e
      unfold lastOf
      rw [e]
      cases T.lin j with
      | none => show lineAt T.seen j = lineAt (storeS T i ys).seen j; rw [hseen, lineAt_out (by omega) e2]
      | some x => rfl
  · rw [h2, h.se, hseen, List.take_of_length_le (Nat.le_refl _)]
  · rw [h7, store_lin]
    by_cases e2 : inL i ys.length j
    · rw [if_pos e2, if_pos e2]; rfl
    · rw [if_neg e2, if_neg e2]; exact h.di j (by rw [hn] at hj; exact hj)
  · rw [h8]
    unfold flushed
    rw [store_lin]
    by_cases e2 : inL i ys.length j
    · rw [if_pos e2, if_pos e2]
      have := (soil_last T j).2
      generalize soilL T j = x at this
      obtain ⟨a, b⟩ := x
      cases this
      rfl
    · rw [if_neg e2, if_neg e2]; exact h.fl j (by rw [hn] at hj; exact hj)
theorem rflush_all {R : RSt} (hl : Len R) {i : Nat} (k : Nat) (hi : i + k ≤ 64 * R.n) :
    (rflushN R i k).lasts = R.lasts ∧ (rflushN R i k).seen = R.seen ∧ (rflushN R i k).dirty = R.dirty ∧ (rflushN R i k).flushed.length = R.n ∧ (rflushN R i k).armed = R.armed ∧ (rflushN R i k).down = R.down ∧
    (∀ j, (rflushN R i k).flushed.getD j false = if inL i k j then R.dirty.getD j false else R.flushed.getD j false) := by
  induction k with
  | zero => refine ⟨rfl, rfl, rfl, hl.l3, rfl, rfl, fun j => ?_⟩; rw [if_neg (by rw [inL_iff]; rintro ⟨t, h, _⟩; omega)]; rfl
  | succ k ih =>
    obtain ⟨h1, h2, h3, h4, h5, h6, h7⟩ := ih (by omega)
    have hq : (i + k) / 64 < R.n := by omega
    refine ⟨h1, h2, h3, ?_, h5, h6, fun j => ?_⟩
    · show ((rflushN R i k).flushed.set _ _).length = _; rw [List.length_set]; exact h4
    · show ((rflushN R i k).flushed.set ((i + k) / 64) ((rflushN R i k).dirty.getD ((i + k) / 64) false)).getD j false = _
      rw [getD_set _ _ _ _ (by omega), h7, h3]
      by_cases e : j = (i + k) / 64
      · rw [if_pos e, if_pos ((inL_succ i k j).2 (Or.inr e.symm)), e]
      · rw [if_neg e]
        by_cases e2 : inL i k j
        · rw [if_pos e2, if_pos ((inL_succ i k j).2 (Or.inl e2))]
        · rw [if_neg e2, if_neg (fun h => by rcases (inL_succ i k j).1 h with h | h; exact e2 h; exact e h.symm)]
theorem ab_flush {T : St} {Q : RSt} (h : Ab T Q) (hl : Len Q) {i n : Nat} (hi : i + n ≤ 64 * T.n) : Ab (flushS T (lineA i n) (lineB i n)) (rflushN Q i n) := by
  obtain ⟨h1, h2, h3, h4, h5, h6, h7⟩ := rflush_all hl (i := i) n (by rw [h.n]; exact hi)
  have hlin : ∀ j, (flushS T (lineA i n) (lineB i n)).lin j = (T.lin j).map fun x => (x.1, if inL i n j then true else x.2) := fun j => by
    show (T.lin j).map (fun x => (x.1, if lineA i n ≤ j ∧ j < lineB i n ∧ (fun _ => false) j = false then true else x.2)) = _
    congr 1
    funext x
    congr 1
    by_cases e : inL i n j
    · rw [if_pos e, if_pos ⟨e.1, e.2, rfl⟩]
    · rw [if_neg e, if_neg (fun hh => e ⟨hh.1, hh.2.1⟩)]
  refine ⟨(rflushN_n i n).trans h.n, ?_, h2.trans h.se, fun j hj => ?_, fun j hj => ?_, h5.trans h.ar, h6.trans h.dn⟩
  · rw [h1, h.la]
    unfold lasts
    refine flat_congr T.n fun j hj => ?_
    unfold lastOf
    rw [hlin]
    cases T.lin j <;> rfl
  · rw [h3, hlin, h.di j hj]
    cases T.lin j <;> rfl
  · rw [h7]
    have hd := h.di j hj
    have hf := h.fl j hj
    unfold flushed at hf ⊢
    rw [hlin]
    by_cases e : inL i n j
    · rw [if_pos e, hd]
      cases T.lin j with
      | none => rfl
      | some x => simp only [Option.map_some, if_pos e]; rfl
    · rw [if_neg e, hf]
      cases T.lin j with
      | none => rfl
      | some x => simp only [Option.map_some, if_neg e]
/-- Fence under way: the first k lines are done. -/
def fenF (T : St) (k j : Nat) : List Int := if j < k ∧ flushed T j = true then lineAt T.seen j else lastOf T j
theorem fenF_len {T : St} (hok : T.Ok) (k : Nat) : ∀ j, j < T.n → (fenF T k j).length = 64 := fun j hj => by
  unfold fenF
  split
  · exact lineAt_len hok hj
  · exact lastOf_len hok hj
theorem rfence_all {T : St} {Q : RSt} (h : Ab T Q) (hl : Len Q) (hok : T.Ok) (k : Nat) (hk : k ≤ T.n) :
    (rfenceN Q k).lasts = flat (fenF T k) T.n ∧ (rfenceN Q k).seen = T.seen ∧ (rfenceN Q k).dirty.length = T.n ∧ (rfenceN Q k).flushed.length = T.n ∧ (rfenceN Q k).armed = T.armed ∧ (rfenceN Q k).down = T.down ∧
    (∀ j, j < T.n → (rfenceN Q k).dirty.getD j false = if j < k ∧ flushed T j = true then false else (T.lin j).isSome) ∧ (∀ j, j < T.n → (rfenceN Q k).flushed.getD j false = if j < k ∧ flushed T j = true then false else flushed T j) := by
  induction k with
  | zero =>
    refine ⟨?_, h.se, by rw [← h.n]; exact hl.l2, by rw [← h.n]; exact hl.l3, h.ar, h.dn, fun j hj => ?_, fun j hj => ?_⟩
    · refine h.la.trans (flat_congr T.n fun j hj => ?_)
      unfold fenF
      rw [if_neg (by omega)]
    · rw [if_neg (by omega)]; exact h.di j hj
    · rw [if_neg (by omega)]; exact h.fl j hj
  | succ k ih =>
    obtain ⟨h1, h2, h3, h4, h5, h6, h7, h8⟩ := ih (by omega)
    have hfk : (rfenceN Q k).flushed.getD k false = flushed T k := by rw [h8 k (by omega), if_neg (by omega)]
    show (rfen1 (rfenceN Q k) k).lasts = _ ∧ (rfen1 (rfenceN Q k) k).seen = _ ∧ (rfen1 (rfenceN Q k) k).dirty.length = _ ∧ (rfen1 (rfenceN Q k) k).flushed.length = _ ∧ (rfen1 (rfenceN Q k) k).armed = _ ∧ (rfen1 (rfenceN Q k) k).down = _ ∧
      (∀ j, j < T.n → (rfen1 (rfenceN Q k) k).dirty.getD j false = _) ∧ (∀ j, j < T.n → (rfen1 (rfenceN Q k) k).flushed.getD j false = _)
    cases hf : flushed T k with
    | true =>
      have e : rfen1 (rfenceN Q k) k = { rlast (rfenceN Q k) k with dirty := (rfenceN Q k).dirty.set k false, flushed := (rfenceN Q k).flushed.set k false } := by unfold rfen1; rw [if_pos (by rw [hfk]; exact hf)]
      rw [e]
      refine ⟨?_, h2, by simp [h3], by simp [h4], h5, h6, fun j hj => ?_, fun j hj => ?_⟩
      · show splice (rfenceN Q k).lasts (64 * k) (lineAt (rfenceN Q k).seen k) = _
        rw [h1, h2, splice_flat T.n k _ (fenF_len hok k) (lineAt_len hok (by omega)) (by omega)]
        refine flat_congr T.n fun j hj => ?_
        by_cases ej : j = k
        · subst ej
          rw [if_pos rfl]
          unfold fenF
          rw [if_pos ⟨by omega, hf⟩]
        · rw [if_neg ej]
          unfold fenF
          by_cases e2 : j < k ∧ flushed T j = true
          · rw [if_pos e2, if_pos ⟨by omega, e2.2⟩]
          · rw [if_neg e2, if_neg (fun hh => e2 ⟨by omega, hh.2⟩)]
      · show ((rfenceN Q k).dirty.set k false).getD j false = _
        rw [getD_set _ _ _ _ (by omega)]
        by_cases ej : j = k
        · subst ej; rw [if_pos rfl, if_pos ⟨by omega, hf⟩]
        · rw [if_neg ej, h7 j hj]
          by_cases e2 : j < k ∧ flushed T j = true
          · rw [if_pos e2, if_pos ⟨by omega, e2.2⟩]
          · rw [if_neg e2, if_neg (fun hh => e2 ⟨by omega, hh.2⟩)]
      · show ((rfenceN Q k).flushed.set k false).getD j false = _
        rw [getD_set _ _ _ _ (by omega)]
        by_cases ej : j = k
        · subst ej; rw [if_pos rfl, if_pos ⟨by omega, hf⟩]
        · rw [if_neg ej, h8 j hj]
          by_cases e2 : j < k ∧ flushed T j = true
          · rw [if_pos e2, if_pos ⟨by omega, e2.2⟩]
          · rw [if_neg e2, if_neg (fun hh => e2 ⟨by omega, hh.2⟩)]
    | false =>
      have e : rfen1 (rfenceN Q k) k = rfenceN Q k := by unfold rfen1; rw [if_neg (by rw [hfk, hf]; simp)]
      rw [e]
      have key : ∀ j, (j < k ∧ flushed T j = true) ↔ (j < k + 1 ∧ flushed T j = true) := fun j => by
        constructor
        · exact fun hh => ⟨by omega, hh.2⟩
        · intro hh
          refine ⟨?_, hh.2⟩
          by_cases ej : j = k
          · subst ej; rw [hf] at hh; cases hh.2
          · omega
      refine ⟨h1.trans (flat_congr T.n fun j hj => ?_), h2, h3, h4, h5, h6, fun j hj => ?_, fun j hj => ?_⟩
      · unfold fenF; simp only [key]
      · rw [h7 j hj]; simp only [key]
      · rw [h8 j hj]; simp only [key]
theorem ab_fence {T : St} {Q : RSt} (h : Ab T Q) (hl : Len Q) (hok : T.Ok) : Ab (fenceS T) (rfenceN Q T.n) := by
  obtain ⟨h1, h2, h3, h4, h5, h6, h7, h8⟩ := rfence_all h hl hok T.n (Nat.le_refl _)
  have hlin : ∀ j, (fenceS T).lin j = if flushed T j = true then none else T.lin j := fun j => by
    show (if flushed T j = true ∧ (fun _ => false) j = false then none else T.lin j) = _
    by_cases e : flushed T j = true
    · rw [if_pos e, if_pos ⟨e, rfl⟩]
    · rw [if_neg e, if_neg (fun hh => e hh.1)]
  refine ⟨(rfenceN_n _).trans h.n, ?_, h2, fun j hj => ?_, fun j hj => ?_, h5, h6⟩
  · rw [h1]
    unfold lasts
    refine flat_congr T.n fun j hj => ?_
    unfold fenF
    conv => rhs; unfold lastOf
    rw [hlin]
    by_cases e : flushed T j = true
    · rw [if_pos ⟨hj, e⟩, if_pos e]; rfl
    · rw [if_neg (fun hh => e hh.2), if_neg e]; rfl
  · have hj' : j < T.n := hj
    rw [h7 j hj', hlin]
    by_cases e : flushed T j = true
    · rw [if_pos ⟨hj', e⟩, if_pos e]; rfl
    · rw [if_neg (fun hh => e hh.2), if_neg e]
  · have hj' : j < T.n := hj
    rw [h8 j hj']
    by_cases e : flushed T j = true
    · rw [if_pos ⟨hj', e⟩]
      unfold flushed
      rw [hlin, if_pos e]
    · rw [if_neg (fun hh => e hh.2)]
      conv => rhs; unfold flushed
      rw [hlin, if_neg e]
      rfl
/-- Crash under way: the first k dirty lines are done. -/
def crF (S : St) (keep : List Bool) (k j : Nat) : List Int := if (S.lin j).isSome = true ∧ rank S j < k ∧ keep.getD (rank S j) false = true then lineAt S.seen j else lastOf S j
theorem crF_len {S : St} (hok : S.Ok) (keep : List Bool) (k : Nat) : ∀ j, j < S.n → (crF S keep k j).length = 64 := fun j hj => by
  unfold crF
  split
  · exact lineAt_len hok hj
  · exact lastOf_len hok hj
theorem rcrash_all {S : St} {R : RSt} (h : Ab S R) (hok : S.Ok) (keep : List Bool) (k : Nat) (hk : k ≤ (dirtyL S).length) :
    (rcrashN R (dirtyL S) keep k).lasts = flat (crF S keep k) S.n ∧ (rcrashN R (dirtyL S) keep k).seen = S.seen := by
  induction k with
  | zero =>
    refine ⟨h.la.trans (flat_congr S.n fun j hj => ?_), h.se⟩
    unfold crF
    rw [if_neg (by omega)]
  | succ k ih =>
    obtain ⟨h1, h2⟩ := ih (by omega)
    obtain ⟨x, hx, hxn, hxs, hxr⟩ := dirty_get S (k := k) (by omega)
    show (rcr1 (rcrashN R (dirtyL S) keep k) keep k ((dirtyL S).getD k 0)).lasts = _ ∧ (rcr1 (rcrashN R (dirtyL S) keep k) keep k ((dirtyL S).getD k 0)).seen = _
    rw [hx]
    unfold rcr1
    rw [Int.toNat_natCast]
    by_cases e : keep.getD k false = true
    · rw [if_pos e]
      refine ⟨?_, h2⟩
      show splice (rcrashN R (dirtyL S) keep k).lasts (64 * x) (lineAt (rcrashN R (dirtyL S) keep k).seen x) = _
      rw [h1, h2, splice_flat S.n x _ (crF_len hok keep k) (lineAt_len hok hxn) hxn]
      refine flat_congr S.n fun j hj => ?_
      by_cases ej : j = x
      · subst ej
        rw [if_pos rfl]
        unfold crF
        rw [if_pos ⟨hxs, by omega, by rw [hxr]; exact e⟩]
      · rw [if_neg ej]
        unfold crF
        by_cases e2 : (S.lin j).isSome = true ∧ rank S j < k ∧ keep.getD (rank S j) false = true
        · rw [if_pos e2, if_pos ⟨e2.1, by omega, e2.2.2⟩]
        · rw [if_neg e2, if_neg]
          rintro ⟨a, b, c⟩
          have : rank S j = k := by
            by_cases q : rank S j < k
            · exact absurd ⟨a, q, c⟩ e2
            · omega
          exact ej (rank_inj S a hxs (this.trans hxr.symm))
    · rw [if_neg e]
      refine ⟨h1.trans (flat_congr S.n fun j hj => ?_), h2⟩
      unfold crF
      by_cases e2 : (S.lin j).isSome = true ∧ rank S j < k ∧ keep.getD (rank S j) false = true
      · rw [if_pos e2, if_pos ⟨e2.1, by omega, e2.2.2⟩]
      · rw [if_neg e2, if_neg]
        rintro ⟨a, b, c⟩
        have : rank S j = k := by
          by_cases q : rank S j < k
          · exact absurd ⟨a, q, c⟩ e2
          · omega
        rw [this] at c
        exact e c
theorem ab_crash {S : St} {R : RSt} (h : Ab S R) (hok : S.Ok) (keep : List Bool) : Ab (crashS S keep) (rcrashS R keep) := by
  have hd := ab_dirty h
  obtain ⟨h1, _⟩ := rcrash_all h hok keep (dirtyL S).length (Nat.le_refl _)
  have e : (rcrashS R keep).seen = crashP S keep (dirtyL S).length := by
    show (rcrashN R (rdirtyN R R.n) keep (rdirtyN R R.n).length).lasts = _
    rw [hd, h1]
    unfold crashP
    refine flat_congr S.n fun j hj => ?_
    unfold crF
    cases hl : S.lin j with
    | none =>
      have hlo : lastOf S j = lineAt S.seen j := by unfold lastOf; rw [hl]
      rw [if_neg (by simp), hlo]
      split <;> rfl
    | some x =>
      have hr : rank S j < (dirtyL S).length := by
        rw [dirty_len]
        have h2 := rank_succ S j
        rw [if_pos (by rw [hl]; rfl)] at h2
        have := rank_mono S (show j + 1 ≤ S.n from hj)
        omega
      by_cases ek : keep.getD (rank S j) false = true
      · rw [if_pos ⟨rfl, hr, ek⟩, if_neg (by rw [ek]; simp)]
      · rw [if_neg (fun hh => ek hh.2.2), if_pos ⟨hr, by simpa using ek⟩]
  have hcl := crashP_len hok keep (dirtyL S).length
  refine ⟨h.n, ?_, e, fun j hj => ?_, fun j hj => ?_, rfl, rfl⟩
  · show (rcrashS R keep).seen = _
    rw [e]
    exact (flat_same _ S.n hcl).symm
  · show (List.replicate R.n false).getD j false = false
    simp [List.getD, List.getElem?_replicate]
    split <;> rfl
  · show (List.replicate R.n false).getD j false = false
    simp [List.getD, List.getElem?_replicate]
    split <;> rfl
end Go.Proofs.YtgiippbjieecmaaGreat
/- Two devices, act by act: the document's calls told by pmem's state. -/
namespace Go.Proofs.YtgiippbjieecmaaGreat
set_option maxRecDepth 100000
open Go.RowKit
set_option linter.unusedVariables false

theorem RSt.Ok.len' {R : RSt} (h : R.Ok) : Len R := ⟨h.l2, h.l3⟩
theorem len_step {R : RSt} (h : Len R) : Len (rstepS R) := by
  obtain ⟨e1, e2, e3, e4, e5⟩ := rstepS_same (R := R)
  exact ⟨by rw [e4, e1]; exact h.l2, by rw [e5, e1]; exact h.l3⟩
section
variable {w : World} {G : Nat → Prop} {q : Nat} {R : RSt} {S : St}
theorem rstore_pair (hr : RDev w G q R) (hab : Ab S R) (hok : S.Ok) (a : Int) (ao : Option Addr) (m cap : Nat) (ys : List Int) (ha : Rg a) (hsl : Sl .u8 w ao m cap ys) (hby : Bytes ys) (hm9 : m ≤ 9223372036854775807) (hno : 0 < m → ∀ c, ao = some c → ¬ G c.block) :
    Calls Tryz.prog 53 #[.pointer (some ⟨q, 0, none⟩), .int .i64 a, .slice ao m cap] w fun e w' => e = .returned (.int .i64 (stepE S a m)) ∧ (∃ R1, RDev w' G q R1 ∧ Ab (Does (fun T => storeS T a.toNat ys) S a m) R1) ∧ Goes G w G w' := by
  refine (rstore_any hr a ao m cap ys ha hsl hby hm9 hno).mono ?_
  rintro e w' ⟨hg, h1, h2, h3⟩
  rw [ab_ask hab hok] at h1 h2 h3
  refine ⟨?_, ?_, hg⟩
  · by_cases hc : checkE S a m = 0
    · obtain ⟨e1, e2⟩ := ab_step hab hc
      cases hB : rstepB R with
      | true => rw [e1, if_pos hB]; exact (h2 hc hB).1
      | false => rw [e1, if_neg (by rw [hB]; simp)]; exact (h3 hc hB).1
    · rw [(does_bad (f := id) hc).1]; exact (h1 hc).1
  · by_cases hc : checkE S a m = 0
    · obtain ⟨e1, e2⟩ := ab_step hab hc
      obtain ⟨_, k2, k3, k4⟩ := checkE_zero hc
      cases hB : rstepB R with
      | true =>
        rw [if_pos hB] at e1
        refine ⟨_, (h2 hc hB).2, ?_⟩
        unfold Does
        rw [if_neg (by omega)]
        exact e2
      | false =>
        rw [if_neg (by rw [hB]; simp)] at e1
        refine ⟨_, (h3 hc hB).2, ?_⟩
        unfold Does
        rw [if_pos e1]
        have hl := hsl.len
        have hn : (stepS S a m).n = S.n := (stepS_same S a m).2.1
        have := ab_store e2 (len_step hr.ok.len') (stepS_ok hok a m) (i := a.toNat) (ys := ys) (by rw [hn, ← hok.len, hl]; omega)
        rw [hl] at this
        exact this
    · exact ⟨R, (h1 hc).2, by rw [(does_bad hc).2]; exact hab⟩
theorem rflush_pair (hr : RDev w G q R) (hab : Ab S R) (hok : S.Ok) (a m : Int) (ha : Rg a) (hm : Rg m) :
    Calls Tryz.prog 54 #[.pointer (some ⟨q, 0, none⟩), .int .i64 a, .int .i64 m] w fun e w' => e = .returned (.int .i64 (stepE S a m)) ∧ (∃ R1, RDev w' G q R1 ∧ Ab (Does (fun T => flushS T (lineA a.toNat m.toNat) (lineB a.toNat m.toNat)) S a m) R1) ∧ Goes G w G w' := by
  refine (rflush_any hr a m ha hm).mono ?_
  rintro e w' ⟨hg, h1, h2, h3⟩
  rw [ab_ask hab hok] at h1 h2 h3
  refine ⟨?_, ?_, hg⟩
  · by_cases hc : checkE S a m = 0
    · obtain ⟨e1, e2⟩ := ab_step hab hc
      cases hB : rstepB R with
      | true => rw [e1, if_pos hB]; exact (h2 hc hB).1
      | false => rw [e1, if_neg (by rw [hB]; simp)]; exact (h3 hc hB).1
    · rw [(does_bad (f := id) hc).1]; exact (h1 hc).1
  · by_cases hc : checkE S a m = 0
    · obtain ⟨e1, e2⟩ := ab_step hab hc
      obtain ⟨_, k2, k3, k4⟩ := checkE_zero hc
      cases hB : rstepB R with
      | true =>
        rw [if_pos hB] at e1
        refine ⟨_, (h2 hc hB).2, ?_⟩
        unfold Does
        rw [if_neg (by omega)]
        exact e2
      | false =>
        rw [if_neg (by rw [hB]; simp)] at e1
        refine ⟨_, (h3 hc hB).2, ?_⟩
        unfold Does
        rw [if_pos e1]
        have hn : (stepS S a m).n = S.n := (stepS_same S a m).2.1
        exact ab_flush e2 (len_step hr.ok.len') (by rw [hn, ← hok.len]; omega)
    · exact ⟨R, (h1 hc).2, by rw [(does_bad hc).2]; exact hab⟩
theorem rfence_pair (hr : RDev w G q R) (hab : Ab S R) (hok : S.Ok) :
    Calls Tryz.prog 55 #[.pointer (some ⟨q, 0, none⟩)] w fun e w' => e = .returned (.int .i64 (stepE S 0 0)) ∧ (∃ R1, RDev w' G q R1 ∧ Ab (Does fenceS S 0 0) R1) ∧ Goes G w G w' := by
  refine (rfence_any hr).mono ?_
  rintro e w' ⟨hg, h1, h2, h3⟩
  rw [hab.dn] at h1 h2 h3
  cases hd : S.down with
  | true =>
    have hc : checkE S 0 0 = 5 := by unfold checkE; rw [if_pos hd]
    have hc' : checkE S 0 0 ≠ 0 := by omega
    obtain ⟨e1, e2⟩ := does_bad (f := fenceS) hc'
    rw [e1, hc, e2]
    exact ⟨(h1 hd).1, ⟨R, (h1 hd).2, hab⟩, hg⟩
  | false =>
    have hc : checkE S 0 0 = 0 := by unfold checkE; rw [if_neg (by rw [hd]; simp), if_neg (by omega)]
    obtain ⟨e1, e2⟩ := ab_step hab hc
    cases hB : rstepB R with
    | true =>
      rw [if_pos hB] at e1
      rw [e1]
      refine ⟨(h2 hd hB).1, ⟨_, (h2 hd hB).2, ?_⟩, hg⟩
      unfold Does
      rw [if_neg (by omega)]
      exact e2
    | false =>
      rw [if_neg (by rw [hB]; simp)] at e1
      rw [e1]
      refine ⟨(h3 hd hB).1, ⟨_, (h3 hd hB).2, ?_⟩, hg⟩
      unfold Does
      rw [if_pos e1]
      have hn : (stepS S 0 0).n = S.n := (stepS_same S 0 0).2.1
      have := ab_fence e2 (len_step hr.ok.len') (stepS_ok hok 0 0)
      rw [hn, ← hab.n] at this
      exact this
end
/-- Two devices, alike, in memory of their own from block B on. -/
structure Two (B : Nat) (w : World) (p q : Nat) (F G : Nat → Prop) (S : St) (R : RSt) : Prop where
  d : Dev w F p S
  r : RDev w G q R
  ab : Ab S R
  bf : ∀ j, F j → B ≤ j
  bg : ∀ j, G j → B ≤ j
  dis : ∀ j, F j → ¬ G j
theorem Two.below {B : Nat} {w w' : World} {p q : Nat} {F G : Nat → Prop} {S : St} {R : RSt} (h : Two B w p q F G S R) (hb : Below w.heap.size w w') : Two B w' p q F G S R := ⟨h.d.below hb, h.r.below hb, h.ab, h.bf, h.bg, h.dis⟩
theorem Two.off {B : Nat} {w w' : World} {E : Nat → Prop} {p q : Nat} {F G : Nat → Prop} {S : St} {R : RSt} (h : Two B w p q F G S R) (ho : Off E w w') (h1 : ∀ j, F j → ¬ E j) (h2 : ∀ j, G j → ¬ E j) : Two B w' p q F G S R := ⟨h.d.off ho h1, h.r.off ho h2, h.ab, h.bf, h.bg, h.dis⟩
theorem Two.half {B : Nat} {w w4 : World} {p q : Nat} {F F' G : Nat → Prop} {S : St} {R : RSt} (h : Two B w p q F G S R) (g : Goes F w F' w4) : RDev w4 G q R ∧ ∀ j, F' j → ¬ G j :=
  ⟨h.r.off g.off (fun k hk hf => h.dis k hf hk), fun j hj hg => by
    rcases g.new j hj with h1 | h1
    · exact h.dis j h1 hg
    · have := h.r.bound j hg; omega⟩
theorem Two.next {B : Nat} {w w4 w5 : World} {p q : Nat} {F F' G G' : Nat → Prop} {S S1 : St} {R R1 : RSt} (h : Two B w p q F G S R) (hB : B ≤ w.heap.size) (d4 : Dev w4 F' p S1) (g4 : Goes F w F' w4) (r5 : RDev w5 G' q R1) (g5 : Goes G w4 G' w5) (hab : Ab S1 R1) : Two B w5 p q F' G' S1 R1 ∧ Below B w w5 := by
  obtain ⟨_, h2⟩ := h.half g4
  have hs := g4.off.size
  have b4 : ∀ j, F' j → B ≤ j := fun j hj => by rcases g4.new j hj with h1 | h1; exact h.bf j h1; omega
  refine ⟨⟨d4.off g5.off (fun k hk hg => h2 k hk hg), r5, hab, b4, fun j hj => ?_, fun j hj hg => ?_⟩, (g4.off.below h.bf hB).trans (g5.off.below h.bg (by omega))⟩
  · rcases g5.new j hj with h1 | h1
    · exact h.bg j h1
    · omega
  · rcases g5.new j hg with h1 | h1
    · exact h2 j hj h1
    · have := d4.bound j hj; omega
end Go.Proofs.YtgiippbjieecmaaGreat
