/- What steps leave of an image, wherever the power fails: plain facts. -/
import Derived.Test.YtgiippbjieecmaaStLin
import Derived.Test.YtgiippbjieecmaaCountM
namespace Go.Proofs.Ytgiippbjieecmaa
set_option maxRecDepth 100000
open Go.RowKit
set_option linter.unusedVariables false

/-- y is seen; of each dirty line z's lasts, the others are z's. -/
structure Lain (z y : List Int) (S : St) : Prop where
  seen : S.seen = y
  len : y.length = z.length
  nn : y.length = 64 * S.n
  lin : ∀ j, (S.lin j = none ∧ lineAt y j = lineAt z j) ∨ ∃ f, S.lin j = some (lineAt z j, f)
/-- All dirty lines are flushed. -/
def Flu (S : St) : Prop := ∀ j x, S.lin j = some x → x.2 = true
/-- All lasts: y. -/
structure Cl (y : List Int) (S : St) : Prop where
  seen : S.seen = y
  nn : y.length = 64 * S.n
  lin : ∀ j, S.lin j = none
/-- The power is there. -/
structure Up (S : St) : Prop where
  dn : S.down = false
  a0 : 0 ≤ S.armed

theorem Cl.lain {y : List Int} {S : St} (h : Cl y S) : Lain y y S := ⟨h.seen, rfl, h.nn, fun j => Or.inl ⟨h.lin j, rfl⟩⟩
theorem Cl.flu {y : List Int} {S : St} (h : Cl y S) : Flu S := fun j x hx => by rw [h.lin j] at hx; cases hx
theorem Lain.last {z y : List Int} {S : St} (h : Lain z y S) (j : Nat) : lastOf S j = lineAt z j := by
  unfold lastOf
  rcases h.lin j with ⟨e, k⟩ | ⟨f, e⟩
  · rw [e]; show lineAt S.seen j = _; rw [h.seen, k]
  · rw [e]
theorem Lain.same {z y : List Int} {S T : St} (h : Lain z y S) (h1 : T.seen = S.seen) (h2 : T.n = S.n) (h3 : T.lin = S.lin) : Lain z y T :=
  ⟨h1.trans h.seen, h.len, by rw [h2]; exact h.nn, fun j => by rw [h3]; exact h.lin j⟩
theorem Lain.stepped {z y : List Int} {S : St} (h : Lain z y S) (a n : Int) : Lain z y (stepS S a n) := h.same (stepS_same S a n).1 (stepS_same S a n).2.1 (stepS_same S a n).2.2
theorem Flu.stepped {S : St} (h : Flu S) (a n : Int) : Flu (stepS S a n) := fun j x hx => by rw [(stepS_same S a n).2.2] at hx; exact h j x hx
theorem Lain.store {z y : List Int} {S : St} (h : Lain z y S) {i : Nat} {ys : List Int} (hi : i + ys.length ≤ y.length) : Lain z (splice y i ys) (storeS S i ys) := by
  have hs := h.seen
  have hl := splice_length hi
  refine ⟨by show splice S.seen i ys = _; rw [hs], hl.trans h.len, ?_, fun j => ?_⟩
  · have : (storeS S i ys).n = S.n := (soilTo_seen _ _ _).2.1
    rw [this, hl]; exact h.nn
  · rw [store_lin]
    by_cases e : inL i ys.length j
    · rw [if_pos e]
      refine Or.inr ⟨false, ?_⟩
      obtain ⟨e1, e2⟩ := soil_last S j
      rw [h.last j] at e1
      rw [← e1, ← e2]
    · rw [if_neg e, lineAt_out hi e]
      exact h.lin j
theorem store_flags {S : St} (h : Flu S) (i : Nat) (ys : List Int) : ∀ j x, (storeS S i ys).lin j = some x → x.2 = true ∨ (lineA i ys.length ≤ j ∧ j < lineB i ys.length) := fun j x hx => by
  rw [store_lin] at hx
  by_cases e : inL i ys.length j
  · exact Or.inr e
  · rw [if_neg e] at hx; exact Or.inl (h j x hx)
theorem Lain.flush {z y : List Int} {S : St} (h : Lain z y S) (a b : Nat) : Lain z y (flushS S a b) := by
  refine ⟨h.seen, h.len, h.nn, fun j => ?_⟩
  show ((S.lin j).map _ = none ∧ _) ∨ ∃ f, (S.lin j).map _ = _
  rcases h.lin j with ⟨e, k⟩ | ⟨f, e⟩
  · rw [e]; exact Or.inl ⟨rfl, k⟩
  · rw [e]; exact Or.inr ⟨_, rfl⟩
theorem flush_flags {S : St} {a b : Nat} (h : ∀ j x, S.lin j = some x → x.2 = true ∨ (a ≤ j ∧ j < b)) : Flu (flushS S a b) := fun j x hx => by
  have hx' : (S.lin j).map (fun x => (x.1, if a ≤ j ∧ j < b ∧ (fun _ => false) j = false then true else x.2)) = some x := hx
  cases e : S.lin j with
  | none => rw [e] at hx'; cases hx'
  | some u =>
    rw [e] at hx'
    cases hx'
    rcases h j u e with h1 | h1
    · show (if _ then true else u.2) = true
      rw [h1]; split <;> rfl
    · show (if _ then true else u.2) = true
      rw [if_pos ⟨h1.1, h1.2, rfl⟩]
theorem Lain.fence {z y : List Int} {S : St} (h : Lain z y S) (hf : Flu S) : Cl y (fenceS S) := by
  refine ⟨h.seen, h.nn, fun j => ?_⟩
  show (if flushed S j = true ∧ (fun _ => false) j = false then none else S.lin j) = none
  cases e : S.lin j with
  | none => split <;> rfl
  | some u =>
    have h2 := hf j u e
    obtain ⟨a, b⟩ := u
    cases h2
    rw [if_pos ⟨by unfold flushed; rw [e], rfl⟩]

theorem Up.one {S : St} {x : Stp} (h : Up S) (hx : inR S.seen.length x) : (stpE S x = 5) ∨ (stpE S x = 0 ∧ Up (stpS S x)) := by
  obtain ⟨h1, h2⟩ := stp_step hx h.dn h.a0
  by_cases e : S.armed = 1
  · exact Or.inl (h1 e).1
  · obtain ⟨a1, a2, a3, a4⟩ := h2 e
    have := h.a0
    exact Or.inr ⟨a1, a2, by rw [a3]; split <;> omega⟩

/-- Some bytes are stored and flushed. -/
theorem lain_pair {z y : List Int} {S : St} (h : Lain z y S) (hf : Flu S) (hu : Up S) {i : Nat} {ys : List Int} (hi : i + ys.length ≤ y.length) (rest : List Stp) :
    (∃ T, runE S (.st i ys :: .fl i ys.length :: rest) = runE T rest ∧ runS S (.st i ys :: .fl i ys.length :: rest) = runS T rest ∧ Lain z (splice y i ys) T ∧ Flu T ∧ Up T) ∨
    (runE S (.st i ys :: .fl i ys.length :: rest) = 5 ∧ (Lain z y (runS S (.st i ys :: .fl i ys.length :: rest)) ∨ Lain z (splice y i ys) (runS S (.st i ys :: .fl i ys.length :: rest)))) := by
  have hx1 : inR S.seen.length (.st i ys) := by show _ ≤ _; rw [h.seen]; exact hi
  rcases hu.one hx1 with e | ⟨e, hu1⟩
  · refine Or.inr ?_
    have hb := run_bad (S := S) (x := .st i ys) (by omega) (.fl i ys.length :: rest)
    rw [hb.1, hb.2]
    refine ⟨e, Or.inl ?_⟩
    show Lain z y (Does (fun T => storeS T i ys) S i ys.length)
    unfold Does
    rw [if_neg (by show ¬ stpE S (.st i ys) = 0; omega)]
    exact h.stepped _ _
  · have hb := run_ok e (.fl i ys.length :: rest)
    rw [hb.1, hb.2]
    have hE : stepE S i ys.length = 0 := e
    have e1 : stpS S (.st i ys) = storeS (stepS S i ys.length) i ys := by
      show Does (fun T => storeS T i ys) S i ys.length = _
      unfold Does
      rw [if_pos hE]
    have h1 := (h.stepped i ys.length).store hi
    have f1 := store_flags (hf.stepped i ys.length) i ys
    rw [← e1] at h1 f1
    generalize stpS S (.st i ys) = T at h1 f1 hu1 ⊢
    have hx2 : inR T.seen.length (.fl i ys.length) := by show _ ≤ _; rw [h1.seen, h1.len, ← h.len]; exact hi
    rcases hu1.one hx2 with e | ⟨e, hu2⟩
    · refine Or.inr ?_
      have hb := run_bad (S := T) (x := .fl i ys.length) (by omega) rest
      rw [hb.1, hb.2]
      refine ⟨e, Or.inr ?_⟩
      show Lain z (splice y i ys) (Does (fun T => flushS T (lineA i ys.length) (lineB i ys.length)) T i ys.length)
      unfold Does
      rw [if_neg (by show ¬ stpE T (.fl i ys.length) = 0; omega)]
      exact h1.stepped _ _
    · refine Or.inl ⟨stpS T (.fl i ys.length), ?_, ?_, ?_, ?_, hu2⟩
      · exact (run_ok e rest).1
      · exact (run_ok e rest).2
      all_goals
        have hE : stepE T i ys.length = 0 := e
        have e1 : stpS T (.fl i ys.length) = flushS (stepS T i ys.length) (lineA i ys.length) (lineB i ys.length) := by
          show Does (fun T => flushS T (lineA i ys.length) (lineB i ys.length)) T i ys.length = _
          unfold Does
          rw [if_pos hE]
        rw [e1]
      · exact (h1.stepped _ _).flush _ _
      · refine flush_flags fun j x hx => ?_
        rw [(stepS_same T i ys.length).2.2] at hx
        exact f1 j x hx
/-- A fence. -/
theorem lain_fence {z y : List Int} {S : St} (h : Lain z y S) (hf : Flu S) (hu : Up S) (rest : List Stp) :
    (∃ T, runE S (.fe :: rest) = runE T rest ∧ runS S (.fe :: rest) = runS T rest ∧ Cl y T ∧ Up T) ∨ (runE S (.fe :: rest) = 5 ∧ Lain z y (runS S (.fe :: rest))) := by
  rcases hu.one (x := .fe) trivial with e | ⟨e, hu1⟩
  · refine Or.inr ?_
    have hb := run_bad (S := S) (x := .fe) (by omega) rest
    rw [hb.1, hb.2]
    refine ⟨e, ?_⟩
    show Lain z y (Does _ S 0 0)
    unfold Does
    rw [if_neg (by show ¬ stpE S .fe = 0; omega)]
    exact h.stepped _ _
  · refine Or.inl ⟨stpS S .fe, (run_ok e rest).1, (run_ok e rest).2, ?_, hu1⟩
    have hE : stepE S 0 0 = 0 := e
    show Cl y (Does fenceS S 0 0)
    unfold Does
    rw [if_pos hE]
    exact (h.stepped 0 0).fence (hf.stepped 0 0)
/-- What is kept at once. -/
theorem lain_keep {z : List Int} {S : St} (h : Cl z S) (hu : Up S) {a : Nat} {ys : List Int} (hi : a * 64 + ys.length ≤ z.length) (rest : List Stp) :
    (∃ T, runE S (keepS a ys ++ rest) = runE T rest ∧ runS S (keepS a ys ++ rest) = runS T rest ∧ Cl (splice z (a * 64) ys) T ∧ Up T) ∨
    (runE S (keepS a ys ++ rest) = 5 ∧ ∃ y, (y = z ∨ y = splice z (a * 64) ys) ∧ Lain z y (runS S (keepS a ys ++ rest))) := by
  have e0 : keepS a ys ++ rest = .st (a * 64) ys :: .fl (a * 64) ys.length :: (.fe :: rest) := rfl
  rw [e0]
  rcases lain_pair h.lain h.flu hu hi (.fe :: rest) with ⟨T, e1, e2, l1, f1, u1⟩ | ⟨e1, l1⟩
  · rw [e1, e2]
    rcases lain_fence l1 f1 u1 rest with ⟨T', e3, e4, l2, u2⟩ | ⟨e3, l2⟩
    · exact Or.inl ⟨T', e3, e4, l2, u2⟩
    · exact Or.inr ⟨e3, _, Or.inr rfl, l2⟩
  · refine Or.inr ⟨e1, ?_⟩
    rcases l1 with l1 | l1
    · exact ⟨_, Or.inl rfl, l1⟩
    · exact ⟨_, Or.inr rfl, l1⟩

/-- Lines of what is spliced. -/
theorem lineAt_in {L zs : List Int} {a t : Nat} (h : a * 64 + zs.length ≤ L.length) (ht : 64 * t + 64 ≤ zs.length) : lineAt (splice L (a * 64) zs) (a + t) = lineAt zs t := by
  apply List.ext_getElem?
  intro q
  unfold lineAt
  rw [List.getElem?_take, List.getElem?_take]
  by_cases hq : q < 64
  · rw [if_pos hq, if_pos hq, List.getElem?_drop, List.getElem?_drop, splice_get3 h, if_pos (by omega)]
    congr 1
    omega
  · rw [if_neg hq, if_neg hq]
theorem inL_al {a k n j : Nat} (hn : n = 64 * k) : inL (a * 64) n j ↔ a ≤ j ∧ j < a + k := by
  unfold inL lineA lineB
  by_cases h0 : n = 0
  · rw [if_pos h0, if_pos h0]; omega
  · rw [if_neg h0, if_neg h0]; omega
theorem lineAt_one {zs : List Int} (h : zs.length = 64) : lineAt zs 0 = zs := by
  unfold lineAt
  rw [Nat.mul_zero, List.drop_zero, List.take_of_length_le (by omega)]
theorem line_put {L zs : List Int} {a : Nat} (h : a * 64 + 64 ≤ L.length) (hz : zs.length = 64) (j : Nat) : lineAt (splice L (a * 64) zs) j = if j = a then zs else lineAt L j := by
  by_cases e : j = a
  · subst e
    rw [if_pos rfl]
    have := lineAt_in (L := L) (zs := zs) (a := j) (t := 0) (by omega) (by omega)
    rw [Nat.add_zero] at this
    rw [this, lineAt_one hz]
  · rw [if_neg e]
    exact lineAt_out (by omega) (fun h => e (by have := (inL_al (k := 1) (by omega)).1 h; omega))
theorem lines_eq {x y : List Int} {n : Nat} (hx : x.length = 64 * n) (hy : y.length = 64 * n) (h : ∀ j, j < n → lineAt x j = lineAt y j) : x = y := by
  rw [← flat_same x n hx, ← flat_same y n hy]
  exact flat_congr n h
theorem lineAt_part {y : List Int} {a k t : Nat} (ht : t < k) : lineAt ((y.drop (a * 64)).take (64 * k)) t = lineAt y (a + t) := by
  apply List.ext_getElem?
  intro q
  unfold lineAt
  rw [List.getElem?_take, List.getElem?_take]
  by_cases hq : q < 64
  · rw [if_pos hq, if_pos hq, List.getElem?_drop, List.getElem?_drop, List.getElem?_take, if_pos (by omega), List.getElem?_drop]
    congr 1
    omega
  · rw [if_neg hq, if_neg hq]

/-- Changes laid, line by line. -/
theorem lay1_eq (y : List Int) (c : Chg) : lay1 y c = splice y (c.1.toNat * 64) c.2 := by unfold lay1; rw [Nat.mul_comm]
theorem lay_length {n a : Int} {l : List Chg} {y : List Int} (h : rightFrom n a l = true) (hy : (y.length : Int) = 64 * n) : (layN y l).length = y.length := by
  induction l generalizing a y with
  | nil => rfl
  | cons c l ih =>
    have hc := rightFrom_mem h (List.mem_cons_self ..)
    have h' : rightFrom n c.1 l = true := by unfold rightFrom at h; simp only [Bool.and_eq_true] at h; exact h.2
    have e : (lay1 y c).length = y.length := by rw [lay1_eq]; exact splice_length (by omega)
    show (layN (lay1 y c) l).length = _
    rw [ih h' (by rw [e]; exact hy), e]
theorem lay_out {n a : Int} {l : List Chg} {y : List Int} (h : rightFrom n a l = true) (hy : (y.length : Int) = 64 * n) {j : Nat} (hj : ∀ c ∈ l, c.1 ≠ (j : Int)) : lineAt (layN y l) j = lineAt y j := by
  induction l generalizing a y with
  | nil => rfl
  | cons c l ih =>
    have hc := rightFrom_mem h (List.mem_cons_self ..)
    have h' : rightFrom n c.1 l = true := by unfold rightFrom at h; simp only [Bool.and_eq_true] at h; exact h.2
    have e : (lay1 y c).length = y.length := by rw [lay1_eq]; exact splice_length (by omega)
    show lineAt (layN (lay1 y c) l) j = _
    rw [ih h' (by rw [e]; exact hy) (fun d hd => hj d (by simp [hd])), lay1_eq, line_put (by omega) hc.2.2.1, if_neg]
    have := hj c (by simp)
    omega
theorem lay_in {n a : Int} {l : List Chg} {y : List Int} (h : rightFrom n a l = true) (hy : (y.length : Int) = 64 * n) {c : Chg} (hc : c ∈ l) : lineAt (layN y l) c.1.toNat = c.2 := by
  induction l generalizing a y with
  | nil => cases hc
  | cons d l ih =>
    have hd := rightFrom_mem h (List.mem_cons_self ..)
    have h' : rightFrom n d.1 l = true := by unfold rightFrom at h; simp only [Bool.and_eq_true] at h; exact h.2
    have e : (lay1 y d).length = y.length := by rw [lay1_eq]; exact splice_length (by omega)
    show lineAt (layN (lay1 y d) l) c.1.toNat = _
    rcases List.mem_cons.1 hc with rfl | hc'
    · rw [lay_out h' (by rw [e]; exact hy) (fun d' hd' => by have := rightFrom_mem h' hd'; omega), lay1_eq, line_put (by omega) hd.2.2.1, if_pos rfl]
    · exact ih h' (by rw [e]; exact hy) hc'
/-- Changes are brought, one behind another. -/
theorem lain_bring {n a : Int} {l : List Chg} {b y : List Int} {S : St} (h : rightFrom n a l = true) (hy : (y.length : Int) = 64 * n) (hL : Lain b y S) (hf : Flu S) (hu : Up S) (H : ∀ j, lineAt y j = lineAt b j ∨ lineAt y j = lineAt (layN y l) j) (rest : List Stp) :
    (∃ T, runE S (bringsL l ++ rest) = runE T rest ∧ runS S (bringsL l ++ rest) = runS T rest ∧ Lain b (layN y l) T ∧ Flu T ∧ Up T) ∨
    (runE S (bringsL l ++ rest) = 5 ∧ ∃ y', Lain b y' (runS S (bringsL l ++ rest)) ∧ ∀ j, lineAt y' j = lineAt b j ∨ lineAt y' j = lineAt (layN y l) j) := by
  induction l generalizing a y S with
  | nil => exact Or.inl ⟨S, rfl, rfl, hL, hf, hu⟩
  | cons c l ih =>
    have hc := rightFrom_mem h (List.mem_cons_self ..)
    have h' : rightFrom n c.1 l = true := by unfold rightFrom at h; simp only [Bool.and_eq_true] at h; exact h.2
    have el : (lay1 y c).length = y.length := by rw [lay1_eq]; exact splice_length (by omega)
    have e0 : bringsL (c :: l) ++ rest = .st (c.1.toNat * 64) c.2 :: .fl (c.1.toNat * 64) c.2.length :: (bringsL l ++ rest) := rfl
    have eL : layN y (c :: l) = layN (lay1 y c) l := rfl
    rw [e0, eL]
    rw [eL] at H
    have H1 : ∀ j, lineAt (lay1 y c) j = lineAt b j ∨ lineAt (lay1 y c) j = lineAt (layN (lay1 y c) l) j := fun j => by
      by_cases e : j = c.1.toNat
      · refine Or.inr ?_
        rw [lay_out h' (by rw [el]; exact hy) (fun d hd => by have := rightFrom_mem h' hd; omega)]
      · have e2 : lineAt (lay1 y c) j = lineAt y j := by rw [lay1_eq, line_put (by omega) hc.2.2.1, if_neg e]
        rw [e2]
        exact H j
    rcases lain_pair hL hf hu (i := c.1.toNat * 64) (ys := c.2) (by omega) (bringsL l ++ rest) with ⟨T, e1, e2, l1, f1, u1⟩ | ⟨e1, l1⟩
    · rw [e1, e2]
      rw [← lay1_eq] at l1
      exact ih h' (by rw [el]; exact hy) l1 f1 u1 H1
    · refine Or.inr ⟨e1, ?_⟩
      rcases l1 with l1 | l1
      · exact ⟨y, l1, H⟩
      · rw [← lay1_eq] at l1
        exact ⟨_, l1, H1⟩
/-- What a crash leaves. -/
theorem crash_lain {z y : List Int} {S : St} (hok : S.Ok) (h : Lain z y S) (keep : List Bool) : ∃ x, crashS S keep = St.new x ∧ x.length = y.length ∧ ∀ j, lineAt x j = lineAt z j ∨ lineAt x j = lineAt y j := by
  have hl := crashP_len hok keep (dirtyL S).length
  refine ⟨crashP S keep (dirtyL S).length, ?_, by rw [hl, h.nn], fun j => ?_⟩
  · unfold crashS St.new
    rw [hl]
    congr 1
    omega
  · by_cases hj : j < S.n
    · unfold crashP
      rw [lineAt_flat S.n j (crashP_lenAt hok keep _) hj]
      split
      · exact Or.inl (h.last j)
      · rw [h.seen]; exact Or.inr rfl
    · refine Or.inr ?_
      unfold lineAt
      rw [List.drop_eq_nil_of_le (by omega), List.drop_eq_nil_of_le (by have := h.nn; omega)]
theorem crash_cl {y : List Int} {S : St} (hok : S.Ok) (h : Cl y S) (keep : List Bool) : crashS S keep = St.new y := by
  obtain ⟨x, e1, e2, e3⟩ := crash_lain hok h.lain keep
  have : x = y := lines_eq (n := S.n) (by rw [e2, h.nn]) h.nn (fun j _ => by rcases e3 j with e | e <;> exact e)
  rw [e1, this]
theorem Cl.dirty {y : List Int} {S : St} (h : Cl y S) : dirtyL S = [] := by
  unfold dirtyL
  rw [List.filter_eq_nil_iff.2 (fun j _ => by rw [h.lin j]; simp)]
  rfl
theorem Cl.lasts {y : List Int} {S : St} (h : Cl y S) : Go.Proofs.Ytgiippbjieecmaa.lasts S = y := by
  unfold Go.Proofs.Ytgiippbjieecmaa.lasts
  have e : lastOf S = lineAt y := funext fun j => (h.lain.last j)
  rw [e]
  exact flat_same y S.n h.nn
theorem Cl.new {y : List Int} (h : y.length % 64 = 0) : Cl y (St.new y) := ⟨rfl, by show y.length = 64 * (y.length / 64); omega, fun _ => rfl⟩
end Go.Proofs.Ytgiippbjieecmaa
