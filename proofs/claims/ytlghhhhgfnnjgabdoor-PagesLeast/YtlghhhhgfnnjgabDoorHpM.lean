/- A heap of pages as it is laid: the parts of objects, taken one by one. -/
import Derived.Test.YtlghhhhgfnnjgabDoorPlcN
import Derived.Test.YtlghhhhgfnnjgabDoorTagM
namespace Go.Proofs.YtlghhhhgfnnjgabDoor
set_option maxRecDepth 100000
open Go.RowKit
set_option linter.unusedVariables false
set_option linter.unusedSimpArgs false

/-- The parts of a large object: page, kind, word. -/
def lgP (a : Int) (n : Nat) : List Blk := (List.range n).map (fun k : Nat => (⟨a + (k : Int), if k = 0 then 6 else 7, 0⟩ : Blk))
/-- Is a small one in a cell; a large one at a page's beginning? -/
def SmP (o : Spn) : Prop := (1 ≤ o.sz ∧ o.sz ≤ 120) ∧ WhOk (clN o.sz) (o.pos.tmod 32)
instance (o : Spn) : Decidable (SmP o) := by unfold SmP; exact inferInstance
def LgP (o : Spn) : Prop := (120 < o.sz ∧ o.sz ≤ 2048) ∧ o.pos.tmod 32 = 0
instance (o : Spn) : Decidable (LgP o) := by unfold LgP; exact inferInstance
def prO (o : Spn) : List Blk := if SmP o then [⟨o.pos.tdiv 32, clN o.sz, o.pos.tmod 32⟩] else if LgP o then lgP (o.pos.tdiv 32) (pgN o.sz).toNat else [⟨-1, 0, 0⟩]
theorem prO_s {o : Spn} (h : SmP o) : prO o = [⟨o.pos.tdiv 32, clN o.sz, o.pos.tmod 32⟩] := if_pos h
theorem LgP.not {o : Spn} (h : LgP o) : ¬ SmP o := fun c => by have := h.1; have := c.1; omega
theorem prO_l {o : Spn} (h : LgP o) : prO o = lgP (o.pos.tdiv 32) (pgN o.sz).toNat := (if_neg h.not).trans (if_pos h)
theorem prO_n {o : Spn} (h : ¬ SmP o) (h' : ¬ LgP o) : prO o = [⟨-1, 0, 0⟩] := (if_neg h).trans (if_neg h')
theorem tm32 (x : Int) : (0 ≤ x → x.tmod 32 = x % 32 ∧ x.tdiv 32 = x / 32) ∧ -32 < x.tmod 32 ∧ x.tmod 32 < 32 ∧ (0 < x.tmod 32 → 0 ≤ x) ∧ x = 32 * x.tdiv 32 + x.tmod 32 := by
  have e := Int.mul_tdiv_add_tmod x 32
  have h1 : 0 ≤ x → x.tmod 32 = x % 32 ∧ x.tdiv 32 = x / 32 := fun h => ⟨Int.tmod_eq_emod_of_nonneg h, Int.tdiv_eq_ediv_of_nonneg h⟩
  have h2 : x < 0 → x.tmod 32 ≤ 0 := fun h => by
    have := Int.tmod_nonneg (a := -x) 32 (by omega)
    rw [Int.neg_tmod] at this
    omega
  have h3 := Int.tmod_lt_of_pos x (b := 32) (by decide)
  have h4 : -32 < x.tmod 32 := by
    by_cases hx : 0 ≤ x
    · have := (h1 hx).1; omega
    · have := Int.tmod_lt_of_pos (-x) (b := 32) (by decide)
      rw [Int.neg_tmod] at this
      omega
  exact ⟨h1, h4, h3, fun h => Decidable.byContradiction fun c => by have := h2 (by omega); omega, by omega⟩
theorem SmP.pos {o : Spn} (h : SmP o) : 0 ≤ o.pos ∧ 4 ≤ o.pos % 32 ∧ o.pos.tmod 32 = o.pos % 32 ∧ o.pos.tdiv 32 = o.pos / 32 := by
  have h4 := h.2.1
  obtain ⟨a, b, c, d, e⟩ := tm32 o.pos
  have := d (by omega)
  obtain ⟨x, y⟩ := a this
  exact ⟨this, by omega, x, y⟩
theorem smP_iff {o : Spn} : SmP o ↔ SmC o := by
  constructor
  · intro h
    obtain ⟨a, b, c, d⟩ := h.pos
    exact ⟨h.1, a, by rw [← c]; exact h.2⟩
  · rintro ⟨h1, h2, h3⟩
    exact ⟨h1, by rw [((tm32 o.pos).1 h2).1]; exact h3⟩
theorem InC.smP {P : Int} {o : Spn} (h : InC P o) (hs : o.sz ≤ 120) : SmP o := smP_iff.2 (h.small hs).1
theorem InC.lgP {P : Int} {o : Spn} (h : InC P o) (hs : ¬ o.sz ≤ 120) : LgP o := by
  obtain ⟨h1, h2, h3, _⟩ := h.large hs
  exact ⟨h1, by rw [((tm32 o.pos).1 h2).1]; exact h3⟩
/-- Each part's word is one of a page's; its numbers are in the bounds. -/
theorem prO_ok {o : Spn} (ho : Rg o.pos) : ∀ p ∈ prO o, (0 ≤ p.ix ∧ p.ix < 32) ∧ RgB p := by
  intro p hp
  obtain ⟨a, b, c, d, e⟩ := tm32 o.pos
  unfold Rg at ho
  by_cases hs : SmP o
  · rw [prO_s hs, List.mem_singleton] at hp
    have := hs.2.1
    have := clN_lt o.sz
    subst hp
    refine ⟨by simp only; omega, ?_, ?_, ?_⟩ <;> unfold Rg <;> simp only <;> omega
  · by_cases hl : LgP o
    · rw [prO_l hl, lgP, List.mem_map] at hp
      obtain ⟨k, hk, rfl⟩ := hp
      rw [List.mem_range] at hk
      have := pgN_in hl.1
      refine ⟨by simp only; omega, ?_, ?_, ?_⟩ <;> unfold Rg <;> simp only <;> (try split) <;> omega
    · rw [prO_n hs hl, List.mem_singleton] at hp
      subst hp
      refine ⟨by simp only; omega, ?_, ?_, ?_⟩ <;> unfold Rg <;> simp only <;> omega

/-- Pages: each one's kind, and which of its words are taken. -/
structure HpS where
  kd : Nat → Int
  tk : Nat → Nat → Bool
def hp0 : HpS := ⟨fun _ => -1, fun _ _ => false⟩
def HpS.put (s : HpS) (p : Blk) : HpS := ⟨fun i => if i = p.pos.toNat then p.sz else s.kd i, fun i j => if i = p.pos.toNat ∧ j = p.ix.toNat then true else s.tk i j⟩
def HpOk (N : Nat) (s : HpS) (p : Blk) : Prop := (0 ≤ p.pos ∧ p.pos < N) ∧ (s.kd p.pos.toNat = -1 ∨ s.kd p.pos.toNat = p.sz) ∧ s.tk p.pos.toNat p.ix.toNat = false
instance (N : Nat) (s : HpS) (p : Blk) : Decidable (HpOk N s p) := by unfold HpOk; exact inferInstance
def hpRun (N : Nat) : HpS → List Blk → Option HpS
  | s, [] => some s
  | s, p :: r => if HpOk N s p then hpRun N (s.put p) r else none
theorem hpRun_t {N : Nat} {s : HpS} {p : Blk} {r : List Blk} (h : HpOk N s p) : hpRun N s (p :: r) = hpRun N (s.put p) r := if_pos h
theorem hpRun_f {N : Nat} {s : HpS} {p : Blk} {r : List Blk} (h : ¬ HpOk N s p) : hpRun N s (p :: r) = none := if_neg h
theorem hpRun_append (N : Nat) (a b : List Blk) : ∀ s, hpRun N s (a ++ b) = (hpRun N s a).bind (fun s' => hpRun N s' b) := by
  induction a with
  | nil => intro s; rfl
  | cons p r ih =>
    intro s
    rw [List.cons_append]
    by_cases h : HpOk N s p
    · rw [hpRun_t h, hpRun_t h, ih]
    · rw [hpRun_f h, hpRun_f h]; rfl
theorem hpRun_more {N : Nat} {s s' : HpS} {a : List Blk} {p : Blk} (h : hpRun N s a = some s') (hp : HpOk N s' p) : hpRun N s (a ++ [p]) = some (s'.put p) := by
  rw [hpRun_append, h]
  exact hpRun_t hp
theorem hpRun_ends {N : Nat} {s s' : HpS} {a r : List Blk} {p : Blk} (h : hpRun N s a = some s') (hp : ¬ HpOk N s' p) : hpRun N s (a ++ p :: r) = none := by
  rw [hpRun_append, h]
  exact hpRun_f hp
/-- An object's word. -/
def wdO (o : Spn) : Int := if o.sz ≤ 120 then o.pos % 32 else 0
/-- What the pages are once objects are laid. -/
structure HpI (N : Nat) (l : List Spn) (s : HpS) : Prop where
  kd : ∀ i : Nat, i < N → s.kd i = kdL l i
  tk : ∀ i j : Nat, s.tk i j = true ↔ ∃ o ∈ l, HasC o i ∧ wdO o = j
theorem HpI.no {N : Nat} {l : List Spn} {s : HpS} (h : HpI N l s) {i j : Nat} (hn : ∀ o ∈ l, HasC o i → wdO o ≠ j) : s.tk i j = false := by
  cases e : s.tk i j with
  | false => rfl
  | true => obtain ⟨o, h1, h2, h3⟩ := (h.tk i j).1 e; exact absurd h3 (hn o h1 h2)
theorem hpI_zero (N : Nat) : HpI N [] hp0 := ⟨fun i hi => rfl, fun i j => ⟨fun h => (by cases h), fun ⟨o, h, _⟩ => (List.not_mem_nil h).elim⟩⟩
theorem HpI.put {N : Nat} {l : List Spn} {o : Spn} {s : HpS} (h : HpI N l s) (hr : RightO N (l ++ [o])) (hs : o.sz ≤ 120) : HpI N (l ++ [o]) (s.put ⟨pgA o, clN o.sz, o.pos % 32⟩) := by
  have hin : InC N o := (rightO_snoc.1 hr).2.1
  have hp := hin.within
  have h0 := hin.len
  have hK := pgK_small hs
  refine ⟨fun i hi => ?_, fun i j => ?_⟩
  · rw [kdL_snoc hr]
    simp only [HpS.put]
    by_cases e : i = (pgA o).toNat
    · rw [if_pos e, if_pos ⟨by omega, by omega⟩, kdO_small hs]
    · rw [if_neg e, if_neg (fun c : HasC o i => by obtain ⟨c1, c2⟩ := c; omega), h.kd i hi]
  · simp only [HpS.put]
    have hw : wdO o = o.pos % 32 := if_pos hs
    by_cases e : i = (pgA o).toNat ∧ j = (o.pos % 32).toNat
    · rw [if_pos e]
      exact ⟨fun _ => ⟨o, by simp, ⟨by omega, by omega⟩, by rw [hw]; omega⟩, fun _ => rfl⟩
    · rw [if_neg e, h.tk]
      constructor
      · rintro ⟨a, h1, h2⟩; exact ⟨a, by simp [h1], h2⟩
      · rintro ⟨a, h1, h2, h3⟩
        rcases List.mem_append.1 h1 with h1 | h1
        · exact ⟨a, h1, h2, h3⟩
        · rw [List.mem_singleton] at h1
          subst h1
          obtain ⟨c1, c2⟩ := h2
          rw [hw] at h3
          exact absurd ⟨by omega, by omega⟩ e
theorem small_free {N : Nat} {l : List Spn} {o : Spn} {s : HpS} (hr : RightO N l) (h : HpI N l s) (ho : SmP o) (hp : 0 ≤ pgA o ∧ pgA o < N) (hk : kdL l (pgA o) = -1 ∨ kdL l (pgA o) = clN o.sz) :
    s.tk (pgA o).toNat (o.pos % 32).toNat = false ↔ ∀ a ∈ l, a.pos ≠ o.pos := by
  obtain ⟨q0, q1, q2, q3⟩ := ho.pos
  have hle := ho.1.2
  have hc : ((pgA o).toNat : Int) = pgA o := by omega
  constructor
  · intro hf a ha e
    have hin := hr.lie a ha
    have hw := hin.within
    have hg := hin.pgk
    have hA : pgA a = pgA o := by unfold pgA; rw [e]
    have hH : HasC a ((pgA o).toNat : Int) := ⟨by omega, by omega⟩
    have : s.tk (pgA o).toNat (o.pos % 32).toNat = true := by
      rw [h.tk]
      refine ⟨a, ha, hH, ?_⟩
      have hkd := kdL_has hr ha hH
      have hsm : a.sz ≤ 120 := by
        by_cases hsm : a.sz ≤ 120
        · exact hsm
        · have := (hin.large hsm).2.2.1
          rw [e] at this
          omega
      unfold wdO
      rw [if_pos hsm, e]
      omega
    rw [this] at hf
    cases hf
  · intro hn
    refine h.no fun a ha hH hw => hn a ha ?_
    have hkd := kdL_has hr ha hH
    rw [hc] at hkd hH
    have hsm : a.sz ≤ 120 := by
      rcases hk with hk | hk
      · have := (kdO_nn a (pgA o)).1; omega
      · rw [← kdO_lt (p := pgA o), ← hkd, hk]
        have := clN_lt o.sz
        omega
    unfold wdO at hw
    rw [if_pos hsm] at hw
    obtain ⟨c1, c2⟩ := hH
    rw [pgK_small hsm] at c2
    unfold pgA at c1 c2
    omega
theorem small_step {N : Nat} {l : List Spn} {o : Spn} {s : HpS} (hr : RightO N l) (h : HpI N l s) (ho : SmP o) : HpOk N s ⟨o.pos.tdiv 32, clN o.sz, o.pos.tmod 32⟩ ↔ RightO N (l ++ [o]) := by
  obtain ⟨q0, q1, q2, q3⟩ := ho.pos
  have hA : pgA o = o.pos / 32 := rfl
  rw [hr.small ho.1.2, q2, q3, ← hA]
  unfold HpOk
  simp only
  constructor
  · rintro ⟨h1, h2, h3⟩
    rw [h.kd _ (by omega), Int.toNat_of_nonneg h1.1] at h2
    exact ⟨.inl ⟨smP_iff.1 ho, h1.2⟩, h2, (small_free hr h ho h1 h2).1 h3⟩
  · rintro ⟨h1, h2, h3⟩
    have hp : 0 ≤ pgA o ∧ pgA o < N := by have := (h1.small ho.1.2).2; have := h1.within; omega
    refine ⟨hp, ?_, (small_free hr h ho hp h2).2 h3⟩
    rw [h.kd _ (by omega), Int.toNat_of_nonneg hp.1]
    exact h2
/-- Some parts of a large one laid. -/
def HpS.big (s : HpS) (a : Nat) (k : Nat) : HpS := ⟨fun i => if a ≤ i ∧ i < a + k then (if i = a then 6 else 7) else s.kd i, fun i j => if (a ≤ i ∧ i < a + k) ∧ j = 0 then true else s.tk i j⟩
theorem big_zero (s : HpS) (a : Nat) : s.big a 0 = s := by
  unfold HpS.big
  cases s with
  | mk kd tk =>
    congr 1
    · funext i; rw [if_neg (by omega)]
    · funext i j; rw [if_neg (by omega)]
theorem big_put (s : HpS) (a k : Nat) : (s.big a k).put ⟨(a : Int) + (k : Int), if k = 0 then 6 else 7, 0⟩ = s.big a (k + 1) := by
  have e : ((a : Int) + (k : Int)).toNat = a + k := by omega
  unfold HpS.big HpS.put
  simp only [e, Int.toNat_zero]
  congr 1
  · funext i
    repeat' split
    all_goals first | rfl | omega
  · funext i j
    repeat' split
    all_goals first | rfl | omega
theorem lgP_succ (a : Int) (n : Nat) : lgP a (n + 1) = lgP a n ++ [⟨a + (n : Int), if n = 0 then 6 else 7, 0⟩] := by simp [lgP, List.range_succ]
theorem lgP_split (a : Int) {k n : Nat} (h : k < n) : ∃ r, lgP a n = lgP a k ++ ⟨a + (k : Int), if k = 0 then 6 else 7, 0⟩ :: r := by
  induction n with
  | zero => omega
  | succ n ih =>
    rw [lgP_succ]
    by_cases e : k = n
    · subst e; exact ⟨[], rfl⟩
    · obtain ⟨r, hr⟩ := ih (by omega)
      exact ⟨r ++ [⟨a + (n : Int), if n = 0 then 6 else 7, 0⟩], by rw [hr]; simp⟩
theorem big_run {N : Nat} {s : HpS} {a : Nat} {k : Nat} (hk : ∀ j, j < k → a + j < N ∧ s.kd (a + j) = -1 ∧ s.tk (a + j) 0 = false) : hpRun N s (lgP (a : Int) k) = some (s.big a k) := by
  induction k with
  | zero => rw [big_zero]; rfl
  | succ k ih =>
    rw [lgP_succ, hpRun_more (ih (fun j hj => hk j (by omega))) ?_, big_put]
    obtain ⟨h1, h2, h3⟩ := hk k (by omega)
    have e : ((a : Int) + (k : Int)).toNat = a + k := by omega
    unfold HpOk HpS.big
    simp only [e]
    refine ⟨by omega, .inl ?_, ?_⟩
    · rw [if_neg (by omega)]; exact h2
    · rw [if_neg (by omega)]; exact h3
/-- A page that has a kind of a large one has its first word taken. -/
theorem large_free {N : Nat} {l : List Spn} {s : HpS} (hr : RightO N l) (h : HpI N l s) {i : Nat} (hi : i < N) {v : Int} (hv : v = 6 ∨ v = 7) : (s.kd i = -1 ∨ s.kd i = v) ∧ s.tk i 0 = false ↔ kdL l i = -1 := by
  rw [h.kd i hi]
  constructor
  · rintro ⟨h1 | h1, h2⟩
    · exact h1
    · obtain ⟨o, ho, hH, e⟩ := kdL_find (l := l) (p := i) (by omega)
      have hbig : ¬ o.sz ≤ 120 := fun c => by have := kdO_lt (o := o) (p := (i : Int)); have := this.2 c; omega
      have : s.tk i 0 = true := (h.tk i 0).2 ⟨o, ho, hH, by unfold wdO; rw [if_neg hbig]; rfl⟩
      rw [this] at h2
      cases h2
  · intro h1
    exact ⟨.inl h1, h.no fun o ho hH => absurd hH ((kdL_neg hr).1 h1 o ho)⟩
theorem large_in {N : Nat} {o : Spn} (ho : LgP o) : InC N o ↔ 0 ≤ o.pos ∧ o.pos / 32 + pgN o.sz ≤ N := by
  constructor
  · intro h
    obtain ⟨_, h1, _, h2⟩ := h.large (by have := ho.1; omega)
    exact ⟨h1, h2⟩
  · rintro ⟨h1, h2⟩
    exact .inr ⟨ho.1, h1, by rw [← ((tm32 o.pos).1 h1).1]; exact ho.2, h2⟩
theorem hp_step {N : Nat} {l : List Spn} {o : Spn} {s : HpS} (hr : RightO N l) (h : HpI N l s) :
    (RightO N (l ++ [o]) → ∃ s', hpRun N s (prO o) = some s' ∧ HpI N (l ++ [o]) s') ∧ (¬ RightO N (l ++ [o]) → hpRun N s (prO o) = none) := by
  by_cases hs : SmP o
  · rw [prO_s hs]
    have hk := small_step hr h hs
    obtain ⟨q0, q1, q2, q3⟩ := hs.pos
    refine ⟨fun hR => ⟨_, hpRun_t (hk.2 hR), ?_⟩, fun hR => hpRun_f (fun c => hR (hk.1 c))⟩
    rw [q2, q3]
    exact h.put hR hs.1.2
  · by_cases hl : LgP o
    · rw [prO_l hl]
      have hbig : ¬ o.sz ≤ 120 := by have := hl.1; omega
      have hpg := pgN_in hl.1
      obtain ⟨t1, t2, t3, t4, t5⟩ := tm32 o.pos
      have ht0 := hl.2
      have hK : pgK o = pgN o.sz := pgK_large hbig
      refine ⟨fun hR => ?_, fun hR => ?_⟩
      · have hin : InC N o := (rightO_snoc.1 hR).2.1
        obtain ⟨i1, i2⟩ := (large_in hl).1 hin
        have hfree := ((hr.large hbig).1 hR).2
        obtain ⟨a, ha⟩ : ∃ a : Nat, o.pos.tdiv 32 = a := ⟨(o.pos.tdiv 32).toNat, by have := (t1 i1).2; omega⟩
        have hA : pgA o = a := by unfold pgA; rw [← ha, (t1 i1).2]
        have hd := (t1 i1).2
        rw [ha]
        refine ⟨_, big_run (fun j hj => ?_), ?_⟩
        · have hlt : a + j < N := by omega
          have hH : HasC o ((a + j : Nat) : Int) := ⟨by omega, by omega⟩
          have e1 := hfree _ hH
          exact ⟨hlt, by rw [h.kd _ hlt]; exact e1, ((large_free hr h hlt (v := 6) (.inl rfl)).2 e1).2⟩
        · refine ⟨fun i hi => ?_, fun i j => ?_⟩
          · rw [kdL_snoc hR]
            simp only [HpS.big]
            by_cases c : HasC o i
            · rw [if_pos c]
              obtain ⟨c1, c2⟩ := c
              rw [if_pos (by omega), kdO_large hbig, hA]
              by_cases e : i = a
              · rw [if_pos e, if_pos (by omega)]
              · rw [if_neg e, if_neg (by omega)]
            · rw [if_neg c, if_neg (fun e => c ⟨by omega, by omega⟩)]
              exact h.kd i hi
          · simp only [HpS.big]
            have hw : wdO o = 0 := if_neg hbig
            by_cases e : (a ≤ i ∧ i < a + (pgN o.sz).toNat) ∧ j = 0
            · rw [if_pos e]
              exact ⟨fun _ => ⟨o, by simp, ⟨by omega, by omega⟩, by rw [hw]; omega⟩, fun _ => rfl⟩
            · rw [if_neg e, h.tk]
              constructor
              · rintro ⟨x, h1, h2⟩; exact ⟨x, by simp [h1], h2⟩
              · rintro ⟨x, h1, h2, h3⟩
                rcases List.mem_append.1 h1 with h1 | h1
                · exact ⟨x, h1, h2, h3⟩
                · rw [List.mem_singleton] at h1
                  subst h1
                  obtain ⟨c1, c2⟩ := h2
                  rw [hw] at h3
                  exact absurd ⟨⟨by omega, by omega⟩, by omega⟩ e
      · -- the first part that cannot be had
        have hbad : ∃ k : Nat, k < (pgN o.sz).toNat ∧ ¬ ((0 ≤ o.pos.tdiv 32 + (k : Int) ∧ o.pos.tdiv 32 + (k : Int) < N) ∧ kdL l (o.pos.tdiv 32 + (k : Int)) = -1) := by
          refine Decidable.byContradiction fun hn => hR ?_
          have hn' : ∀ k : Nat, k < (pgN o.sz).toNat → (0 ≤ o.pos.tdiv 32 + (k : Int) ∧ o.pos.tdiv 32 + (k : Int) < N) ∧ kdL l (o.pos.tdiv 32 + (k : Int)) = -1 := fun k hk => Decidable.byContradiction fun c => hn ⟨k, hk, c⟩
          have e0 := hn' 0 (by omega)
          have e1 := hn' ((pgN o.sz).toNat - 1) (by omega)
          have hp0 : 0 ≤ o.pos := by omega
          have hd := (t1 hp0).2
          have hin : InC N o := (large_in hl).2 ⟨hp0, by omega⟩
          refine (hr.large hbig).2 ⟨hin, fun p hp => ?_⟩
          obtain ⟨c1, c2⟩ := hp
          have hA : pgA o = o.pos / 32 := rfl
          have := (hn' (p - pgA o).toNat (by omega)).2
          rwa [show o.pos.tdiv 32 + (((p - pgA o).toNat : Nat) : Int) = p by omega] at this
        obtain ⟨k, hk, hkb, hfirst⟩ : ∃ k : Nat, k < (pgN o.sz).toNat ∧ ¬ ((0 ≤ o.pos.tdiv 32 + (k : Int) ∧ o.pos.tdiv 32 + (k : Int) < N) ∧ kdL l (o.pos.tdiv 32 + (k : Int)) = -1) ∧ ∀ j : Nat, j < k → ((0 ≤ o.pos.tdiv 32 + (j : Int) ∧ o.pos.tdiv 32 + (j : Int) < N) ∧ kdL l (o.pos.tdiv 32 + (j : Int)) = -1) := by
          obtain ⟨k, hk, hkb⟩ := hbad
          induction k using Nat.strongRecOn with
          | ind k ih =>
            by_cases hx : ∀ j : Nat, j < k → ((0 ≤ o.pos.tdiv 32 + (j : Int) ∧ o.pos.tdiv 32 + (j : Int) < N) ∧ kdL l (o.pos.tdiv 32 + (j : Int)) = -1)
            · exact ⟨k, hk, hkb, hx⟩
            · obtain ⟨j, hj⟩ := Classical.not_forall.1 hx
              obtain ⟨hjk, hjb⟩ := Classical.not_imp.1 hj
              exact ih j hjk (by omega) hjb
        obtain ⟨r, hspl⟩ := lgP_split (o.pos.tdiv 32) hk
        rw [hspl]
        by_cases hneg : 0 ≤ o.pos.tdiv 32
        · obtain ⟨a, ha⟩ : ∃ a : Nat, o.pos.tdiv 32 = a := ⟨(o.pos.tdiv 32).toNat, by omega⟩
          rw [ha] at hkb hfirst ⊢
          refine hpRun_ends (big_run (fun j hj => ?_)) (fun c => ?_)
          · obtain ⟨f1, f2⟩ := hfirst j hj
            have hlt : a + j < N := by omega
            have e1 : kdL l ((a + j : Nat) : Int) = -1 := by rw [← f2]; congr 1
            exact ⟨hlt, by rw [h.kd _ hlt]; exact e1, ((large_free hr h hlt (v := 6) (.inl rfl)).2 e1).2⟩
          · obtain ⟨c1, c2, c3⟩ := c
            simp only at c1 c2 c3
            have e : ((a : Int) + (k : Int)).toNat = a + k := by omega
            simp only [e, HpS.big] at c2 c3
            rw [if_neg (by omega)] at c2 c3
            have hlt : a + k < N := by omega
            refine hkb ⟨c1, ?_⟩
            have := (large_free hr h hlt (v := if k = 0 then 6 else 7) (by split <;> simp)).1 ⟨c2, c3⟩
            rw [← this]; congr 1
        · have hk0 : k = 0 := by
            refine Decidable.byContradiction fun hk0 => ?_
            have := (hfirst 0 (by omega)).1
            omega
          subst hk0
          exact hpRun_f (fun c => by have := c.1.1; simp only at this; omega)
    · rw [prO_n hs hl]
      refine ⟨fun hR => ?_, fun _ => hpRun_f (fun c => by have := c.1.1; simp only at this; omega)⟩
      have hin : InC N o := (rightO_snoc.1 hR).2.1
      by_cases hc : o.sz ≤ 120
      · exact absurd (hin.smP hc) hs
      · exact absurd (hin.lgP hc) hl
/-- All parts. -/
def prL (l : List Spn) : List Blk := l.flatMap prO
theorem prL_snoc (l : List Spn) (o : Spn) : prL (l ++ [o]) = prL l ++ prO o := by simp [prL]
theorem hp_ind {motive : List Spn → Prop} (nil : motive []) (snoc : ∀ W x, motive W → motive (W ++ [x])) (W : List Spn) : motive W := by
  have h : ∀ n (W : List Spn), W.length = n → motive W := by
    intro n
    induction n with
    | zero => intro W hW; rw [List.eq_nil_of_length_eq_zero hW]; exact nil
    | succ n ih =>
      intro W hW
      have hne : W ≠ [] := fun e => by rw [e] at hW; cases hW
      rw [← List.dropLast_concat_getLast hne]
      exact snoc _ _ (ih _ (by rw [List.length_dropLast]; omega))
  exact h _ W rfl
theorem hp_all {N : Nat} (hN : N ≤ 64) (l : List Spn) : (RightO N l → ∃ s, hpRun N hp0 (prL l) = some s ∧ HpI N l s) ∧ (¬ RightO N l → hpRun N hp0 (prL l) = none) := by
  induction l using hp_ind with
  | nil => exact ⟨fun _ => ⟨hp0, rfl, hpI_zero N⟩, fun h => absurd (RightO.nil ⟨by omega, by omega⟩) h⟩
  | snoc l o ih =>
    rw [prL_snoc, hpRun_append]
    by_cases hr : RightO N l
    · obtain ⟨s, e, hs⟩ := ih.1 hr
      rw [e]
      exact hp_step hr hs
    · rw [ih.2 hr]
      exact ⟨fun h => absurd (rightO_snoc.1 h).1 hr, fun _ => rfl⟩
/-- The parts, with the numbers of their objects. -/
def prK (l : List Spn) (k : Nat) : List (Nat × Blk) := (List.range k).flatMap (fun i => (prO (pa l i)).map (fun p => (i, p)))
theorem prK_succ (l : List Spn) (k : Nat) : prK l (k + 1) = prK l k ++ (prO (pa l k)).map (fun p => (k, p)) := by simp [prK, List.range_succ]
theorem prK_snd (l : List Spn) {k : Nat} (hk : k ≤ l.length) : (prK l k).map (·.2) = prL (l.take k) := by
  induction k with
  | zero => rfl
  | succ k ih =>
    rw [prK_succ, List.map_append, ih (by omega), take_pa (by omega), prL_snoc, List.map_map]
    congr 1
    simp [Function.comp_def]
theorem prK_mem {l : List Spn} {k : Nat} {q : Nat × Blk} (h : q ∈ prK l k) : q.1 < k ∧ q.2 ∈ prO (pa l q.1) := by
  simp only [prK, List.mem_flatMap, List.mem_range, List.mem_map] at h
  obtain ⟨i, hi, p, hp, rfl⟩ := h
  exact ⟨hi, hp⟩
/-- The objects of a page, part by part. -/
def mtQ (pg : Int) (q : List (Nat × Blk)) : List Int := (q.filter (fun x => decide (x.2.pos = pg))).map (fun x => ((x.1 : Nat) : Int))
theorem mtQ_yes {pg : Int} {q : List (Nat × Blk)} {x : Nat × Blk} (h : x.2.pos = pg) : mtQ pg (q ++ [x]) = mtQ pg q ++ [(x.1 : Int)] := by simp [mtQ, h]
theorem mtQ_no {pg : Int} {q : List (Nat × Blk)} {x : Nat × Blk} (h : ¬ x.2.pos = pg) : mtQ pg (q ++ [x]) = mtQ pg q := by simp [mtQ, h]
theorem mtQ_len (pg : Int) (q : List (Nat × Blk)) : (mtQ pg q).length ≤ q.length := by
  simp only [mtQ, List.length_map]
  exact List.length_filter_le _ _
theorem mtQ_append (pg : Int) (a b : List (Nat × Blk)) : mtQ pg (a ++ b) = mtQ pg a ++ mtQ pg b := by simp [mtQ]
theorem mtQ_large (pg a : Int) (i n : Nat) : mtQ pg ((lgP a n).map (fun p => (i, p))) = if a ≤ pg ∧ pg < a + n then [(i : Int)] else [] := by
  induction n with
  | zero => rw [if_neg (by omega)]; rfl
  | succ n ih =>
    rw [lgP_succ, List.map_append, mtQ_append, ih]
    by_cases e : a + (n : Int) = pg
    · have e1 : (if a ≤ pg ∧ pg < a + (n : Int) then [(i : Int)] else []) = [] := if_neg (by omega)
      have e2 : (if a ≤ pg ∧ pg < a + ((n + 1 : Nat) : Int) then [(i : Int)] else []) = [(i : Int)] := if_pos (by omega)
      rw [e1, e2]
      simp [mtQ, e]
    · have : mtQ pg ([(⟨a + (n : Int), if n = 0 then 6 else 7, 0⟩ : Blk)].map (fun p => (i, p))) = [] := by simp [mtQ, e]
      rw [this, List.append_nil]
      by_cases h : a ≤ pg ∧ pg < a + n
      · rw [if_pos h, if_pos (by omega)]
      · rw [if_neg h, if_neg (by omega)]
theorem mtQ_all {P : Int} {l : List Spn} (hr : RightO P l) (pg : Int) {k : Nat} (hk : k ≤ l.length) : mtQ pg (prK l k) = mtK l pg k := by
  induction k with
  | zero => rfl
  | succ k ih =>
    rw [prK_succ, mtQ_append, ih (by omega)]
    have hin := hr.lie _ (pa_mem (show k < l.length by omega))
    have h0 := hin.len
    obtain ⟨t1, _⟩ := tm32 (pa l k).pos
    have hA : pgA (pa l k) = (pa l k).pos / 32 := rfl
    have hd := (t1 h0.2.2).2
    have key : mtQ pg ((prO (pa l k)).map (fun p => (k, p))) = if HasC (pa l k) pg then [(k : Int)] else [] := by
      by_cases hs : (pa l k).sz ≤ 120
      · rw [prO_s (hin.smP hs)]
        have hK := pgK_small hs
        by_cases c : HasC (pa l k) pg
        · rw [if_pos c]
          have e : (pa l k).pos.tdiv 32 = pg := by unfold HasC at c; omega
          simp [mtQ, e]
        · rw [if_neg c]
          have e : ¬ (pa l k).pos.tdiv 32 = pg := fun e => c (by unfold HasC; omega)
          simp [mtQ, e]
      · rw [prO_l (hin.lgP hs), mtQ_large]
        have hK := pgK_large hs
        have hp := pgN_in (hin.lgP hs).1
        by_cases c : HasC (pa l k) pg
        · rw [if_pos c, if_pos (by unfold HasC at c; omega)]
        · rw [if_neg c, if_neg (fun e => c (by unfold HasC; omega))]
    rw [key]
    by_cases c : HasC (pa l k) pg
    · rw [if_pos c, mt_yes c]
    · rw [if_neg c, mt_no c, List.append_nil]
end Go.Proofs.YtlghhhhgfnnjgabDoor
