/- Objects in pages in plain words: which lie right, what kind a page is, what a further object turns. -/
import Derived.Test.YtlghhhhgfnnjgabDoorGapM
import Derived.Test.YtlghhhhgfnnjgabDoorClsM
namespace Go.Proofs.YtlghhhhgfnnjgabDoor
set_option maxRecDepth 100000
set_option linter.unusedVariables false
set_option linter.unusedSimpArgs false

/-- A small object (pos: its At, sz: its Len) that lies in a cell. -/
def SmC (o : Spn) : Prop := (1 ≤ o.sz ∧ o.sz ≤ 120) ∧ 0 ≤ o.pos ∧ WhOk (clN o.sz) (o.pos % 32)
instance (o : Spn) : Decidable (SmC o) := by unfold SmC; exact inferInstance
/-- A large one that lies in so many pages. -/
def LgC (P : Int) (o : Spn) : Prop := (120 < o.sz ∧ o.sz ≤ 2048) ∧ 0 ≤ o.pos ∧ o.pos % 32 = 0 ∧ o.pos / 32 + pgN o.sz ≤ P
instance (P : Int) (o : Spn) : Decidable (LgC P o) := by unfold LgC; exact inferInstance
def InC (P : Int) (o : Spn) : Prop := (SmC o ∧ o.pos / 32 < P) ∨ LgC P o
instance (P : Int) (o : Spn) : Decidable (InC P o) := by unfold InC; exact inferInstance
/-- Its first page, and how many it has. -/
def pgA (o : Spn) : Int := o.pos / 32
def pgK (o : Spn) : Int := if o.sz ≤ 120 then 1 else pgN o.sz
def HasC (o : Spn) (p : Int) : Prop := pgA o ≤ p ∧ p < pgA o + pgK o
instance (o : Spn) (p : Int) : Decidable (HasC o p) := by unfold HasC; exact inferInstance
/-- The kind that it gives to a page of its own. -/
def kdO (o : Spn) (p : Int) : Int := if o.sz ≤ 120 then (clN o.sz : Int) else if p = pgA o then 6 else 7
/-- Two that may lie beside each other. -/
def FitO (a b : Spn) : Prop := a.pos ≠ b.pos ∧ (pgA a + pgK a ≤ pgA b ∨ pgA b + pgK b ≤ pgA a ∨ (a.sz ≤ 120 ∧ b.sz ≤ 120 ∧ clN a.sz = clN b.sz))
instance (a b : Spn) : Decidable (FitO a b) := by unfold FitO; exact inferInstance
theorem FitO.symm {a b : Spn} (h : FitO a b) : FitO b a := by
  obtain ⟨h1, h2⟩ := h
  refine ⟨fun e => h1 e.symm, ?_⟩
  rcases h2 with h2 | h2 | ⟨x, y, z⟩
  · exact Or.inr (Or.inl h2)
  · exact Or.inl h2
  · exact Or.inr (Or.inr ⟨y, x, z.symm⟩)
/-- Objects are right in so many pages. -/
structure RightO (P : Int) (l : List Spn) : Prop where
  rng : 0 ≤ P ∧ P ≤ 64
  lie : ∀ o ∈ l, InC P o
  fit : l.Pairwise FitO
theorem rightO_iff {P : Int} {l : List Spn} : RightO P l ↔ ((0 ≤ P ∧ P ≤ 64) ∧ (∀ o ∈ l, InC P o) ∧ l.Pairwise FitO) := ⟨fun h => ⟨h.1, h.2, h.3⟩, fun h => ⟨h.1, h.2.1, h.2.2⟩⟩
instance (P : Int) (l : List Spn) : Decidable (RightO P l) := decidable_of_iff _ rightO_iff.symm
theorem InC.len {P : Int} {o : Spn} (h : InC P o) : 1 ≤ o.sz ∧ o.sz ≤ 2048 ∧ 0 ≤ o.pos := by
  rcases h with ⟨⟨h1, h2, _⟩, _⟩ | ⟨h1, h2, _⟩ <;> exact ⟨by omega, by omega, h2⟩
theorem pgN_in {n : Int} (h : 120 < n ∧ n ≤ 2048) : 1 ≤ pgN n ∧ pgN n ≤ 8 := by rw [(pg_t h).1]; omega
theorem InC.pgk {P : Int} {o : Spn} (h : InC P o) : 1 ≤ pgK o ∧ pgK o ≤ 8 := by
  obtain ⟨a, b, c⟩ := h.len
  unfold pgK
  split
  · omega
  · exact pgN_in ⟨by omega, b⟩
theorem pgK_small {o : Spn} (h : o.sz ≤ 120) : pgK o = 1 := if_pos h
theorem pgK_large {o : Spn} (h : ¬ o.sz ≤ 120) : pgK o = pgN o.sz := if_neg h
theorem InC.small {P : Int} {o : Spn} (h : InC P o) (hs : o.sz ≤ 120) : SmC o ∧ pgA o < P := by
  rcases h with ⟨h1, h2⟩ | ⟨h1, _⟩
  · exact ⟨h1, h2⟩
  · omega
theorem InC.large {P : Int} {o : Spn} (h : InC P o) (hs : ¬ o.sz ≤ 120) : LgC P o := by
  rcases h with ⟨⟨h1, _⟩, h2⟩ | h1
  · omega
  · exact h1
theorem InC.within {P : Int} {o : Spn} (h : InC P o) : 0 ≤ pgA o ∧ pgA o + pgK o ≤ P := by
  obtain ⟨a, b, c⟩ := h.len
  refine ⟨by unfold pgA; omega, ?_⟩
  by_cases hs : o.sz ≤ 120
  · rw [pgK_small hs]; have := (h.small hs).2; omega
  · rw [pgK_large hs]; exact (h.large hs).2.2.2
theorem InC.has {P : Int} {o : Spn} (h : InC P o) {p : Int} (hp : HasC o p) : 0 ≤ p ∧ p < P := by
  obtain ⟨a, b⟩ := h.within
  obtain ⟨c, d⟩ := hp
  omega
theorem InC.first {P : Int} {o : Spn} (h : InC P o) : HasC o (pgA o) := ⟨Int.le_refl _, by have := h.pgk; omega⟩
theorem kdO_nn (o : Spn) (p : Int) : 0 ≤ kdO o p ∧ kdO o p ≤ 7 := by
  have := clN_lt o.sz
  unfold kdO
  split
  · omega
  · split <;> omega
theorem kdO_small {o : Spn} (h : o.sz ≤ 120) (p : Int) : kdO o p = clN o.sz := if_pos h
theorem kdO_large {o : Spn} (h : ¬ o.sz ≤ 120) (p : Int) : kdO o p = if p = pgA o then 6 else 7 := if_neg h
theorem kdO_lt {o : Spn} {p : Int} : kdO o p < 6 ↔ o.sz ≤ 120 := by
  have := clN_lt o.sz
  unfold kdO
  split
  · omega
  · split <;> omega
theorem FitO.share {a b : Spn} {p : Int} (h : FitO a b) (ha : HasC a p) (hb : HasC b p) : a.sz ≤ 120 ∧ b.sz ≤ 120 ∧ clN a.sz = clN b.sz := by
  obtain ⟨_, h2⟩ := h
  obtain ⟨a1, a2⟩ := ha
  obtain ⟨b1, b2⟩ := hb
  rcases h2 with h2 | h2 | h2
  · omega
  · omega
  · exact h2
theorem RightO.nil {P : Int} (h : 0 ≤ P ∧ P ≤ 64) : RightO P [] := ⟨h, fun o ho => (List.not_mem_nil ho).elim, List.Pairwise.nil⟩
theorem rightO_snoc {P : Int} {l : List Spn} {o : Spn} : RightO P (l ++ [o]) ↔ RightO P l ∧ InC P o ∧ ∀ a ∈ l, FitO a o := by
  constructor
  · rintro ⟨h1, h2, h3⟩
    obtain ⟨f1, f2, f3⟩ := List.pairwise_append.1 h3
    exact ⟨⟨h1, fun x hx => h2 x (List.mem_append.2 (Or.inl hx)), f1⟩, h2 o (by simp), fun a ha => f3 a ha o (by simp)⟩
  · rintro ⟨⟨h1, h2, h3⟩, h4, h5⟩
    refine ⟨h1, fun x hx => ?_, List.pairwise_append.2 ⟨h3, List.pairwise_singleton _ _, fun a ha b hb => ?_⟩⟩
    · rcases List.mem_append.1 hx with hx | hx
      · exact h2 x hx
      · rw [List.mem_singleton.1 hx]; exact h4
    · rw [List.mem_singleton.1 hb]; exact h5 a ha
theorem RightO.two {P : Int} {l : List Spn} (h : RightO P l) {a b : Spn} (ha : a ∈ l) (hb : b ∈ l) (hne : a ≠ b) : FitO a b := by
  obtain ⟨i, hi, rfl⟩ := mem_pa ha
  obtain ⟨j, hj, rfl⟩ := mem_pa hb
  have hf := List.pairwise_iff_getElem.1 h.fit
  have e : ∀ k (hk : k < l.length), pa l k = l[k] := fun k hk => by simp [pa, List.getD, hk]
  rcases Nat.lt_trichotomy i j with hij | hij | hij
  · rw [e i hi, e j hj]; exact hf i j hi hj hij
  · subst hij; exact (hne rfl).elim
  · rw [e i hi, e j hj]; exact (hf j i hj hi hij).symm
theorem RightO.take {P : Int} {l : List Spn} (h : RightO P l) (k : Nat) : RightO P (l.take k) := ⟨h.rng, fun o ho => h.lie o (List.mem_of_mem_take ho), h.fit.sublist (List.take_sublist k l)⟩
/-- No two are at one place. -/
theorem RightO.ne {P : Int} {l : List Spn} (h : RightO P l) {i j : Nat} (hi : i < l.length) (hj : j < l.length) (hij : i ≠ j) : FitO (pa l i) (pa l j) := by
  have hf := List.pairwise_iff_getElem.1 h.fit
  have e : ∀ k (hk : k < l.length), pa l k = l[k] := fun k hk => by simp [pa, List.getD, hk]
  rcases Nat.lt_trichotomy i j with h1 | h1 | h1
  · rw [e i hi, e j hj]; exact hf i j hi hj h1
  · exact (hij h1).elim
  · rw [e i hi, e j hj]; exact (hf j i hj hi h1).symm

/-- The kind of a page: -1 of one that is nobody's. -/
def kdL (l : List Spn) (p : Int) : Int := match l.find? (fun o => decide (HasC o p)) with
  | some o => kdO o p
  | none => -1
theorem kdL_free {l : List Spn} {p : Int} (h : ∀ o ∈ l, ¬ HasC o p) : kdL l p = -1 := by
  unfold kdL
  rw [List.find?_eq_none.2 (fun o ho => by simpa using h o ho)]
theorem kdL_find {l : List Spn} {p : Int} (h : kdL l p ≠ -1) : ∃ o ∈ l, HasC o p ∧ kdL l p = kdO o p := by
  unfold kdL at h ⊢
  cases e : l.find? (fun o => decide (HasC o p)) with
  | none => rw [e] at h; exact (h rfl).elim
  | some o => exact ⟨o, List.mem_of_find?_eq_some e, by simpa using List.find?_some e, rfl⟩
theorem kdL_has {P : Int} {l : List Spn} (h : RightO P l) {o : Spn} (ho : o ∈ l) {p : Int} (hp : HasC o p) : kdL l p = kdO o p := by
  unfold kdL
  cases e : l.find? (fun o => decide (HasC o p)) with
  | none => exact ((List.find?_eq_none.1 e o ho) (by simpa using hp)).elim
  | some a =>
    have ha := List.mem_of_find?_eq_some e
    have hap : HasC a p := by simpa using List.find?_some e
    by_cases hao : a = o
    · rw [hao]
    · obtain ⟨s1, s2, s3⟩ := (h.two ha ho hao).share hap hp
      show kdO a p = kdO o p
      rw [kdO_small s1, kdO_small s2, s3]
theorem kdL_neg {P : Int} {l : List Spn} (h : RightO P l) {p : Int} : kdL l p = -1 ↔ ∀ o ∈ l, ¬ HasC o p := by
  refine ⟨fun e o ho hp => ?_, kdL_free⟩
  rw [kdL_has h ho hp] at e
  have := kdO_nn o p
  omega
theorem kdL_rg (l : List Spn) (p : Int) : -1 ≤ kdL l p ∧ kdL l p ≤ 7 := by
  by_cases h : kdL l p = -1
  · omega
  · obtain ⟨o, _, _, e⟩ := kdL_find h
    have := kdO_nn o p
    omega
theorem kdL_snoc {P : Int} {l : List Spn} {o : Spn} (h : RightO P (l ++ [o])) (p : Int) : kdL (l ++ [o]) p = if HasC o p then kdO o p else kdL l p := by
  obtain ⟨hl, ho, hf⟩ := rightO_snoc.1 h
  by_cases hp : HasC o p
  · rw [if_pos hp]
    exact kdL_has h (by simp) hp
  · rw [if_neg hp]
    by_cases e : kdL l p = -1
    · rw [e]
      exact kdL_free (fun x hx => by
        rcases List.mem_append.1 hx with hx | hx
        · exact (kdL_neg hl).1 e x hx
        · rw [List.mem_singleton.1 hx]; exact hp)
    · obtain ⟨x, hx, hxp, e2⟩ := kdL_find e
      rw [e2]
      exact kdL_has h (List.mem_append.2 (Or.inl hx)) hxp
/-- What a small one asks of those that are there. -/
theorem fit_small {P : Int} {l : List Spn} {o : Spn} (h : RightO P l) (hs : o.sz ≤ 120) :
    (∀ a ∈ l, FitO a o) ↔ ((kdL l (pgA o) = -1 ∨ kdL l (pgA o) = clN o.sz) ∧ ∀ a ∈ l, a.pos ≠ o.pos) := by
  have hp : HasC o (pgA o) := ⟨Int.le_refl _, by rw [pgK_small hs]; omega⟩
  constructor
  · intro hf
    refine ⟨?_, fun a ha => (hf a ha).1⟩
    by_cases e : kdL l (pgA o) = -1
    · exact Or.inl e
    · obtain ⟨a, ha, hap, e2⟩ := kdL_find e
      obtain ⟨s1, s2, s3⟩ := (hf a ha).share hap hp
      right
      rw [e2, kdO_small s1, s3]
  · rintro ⟨hk, hn⟩ a ha
    refine ⟨hn a ha, ?_⟩
    by_cases h1 : pgA a + pgK a ≤ pgA o
    · exact Or.inl h1
    by_cases h2 : pgA o + pgK o ≤ pgA a
    · exact Or.inr (Or.inl h2)
    rw [pgK_small hs] at h2
    have hap : HasC a (pgA o) := ⟨by omega, by omega⟩
    have e := kdL_has h ha hap
    have nn := kdO_nn a (pgA o)
    have hc := clN_lt o.sz
    have hlt : kdO a (pgA o) < 6 := by omega
    have hsa := kdO_lt.1 hlt
    rw [kdO_small hsa] at e nn
    exact Or.inr (Or.inr ⟨hsa, hs, by omega⟩)
theorem fit_large {P : Int} {l : List Spn} {o : Spn} (h : RightO P l) (ho : InC P o) (hs : ¬ o.sz ≤ 120) :
    (∀ a ∈ l, FitO a o) ↔ ∀ p, HasC o p → kdL l p = -1 := by
  constructor
  · intro hf p hp
    refine (kdL_neg h).2 fun a ha hap => ?_
    exact hs ((hf a ha).share hap hp).2.1
  · intro hk a ha
    have hA := (h.lie a ha).pgk
    have hO := ho.pgk
    have dis : ∀ p, HasC o p → ¬ HasC a p := fun p hp => (kdL_neg h).1 (hk p hp) a ha
    have d1 := dis (pgA o) ho.first
    have d2 : ¬ HasC o (pgA a) := fun hx => dis _ hx (h.lie a ha).first
    unfold HasC at d1 d2
    refine ⟨fun e => ?_, ?_⟩
    · have : pgA a = pgA o := by unfold pgA; rw [e]
      omega
    · omega
/-- The kinds of all pages; none, if the objects are not right. -/
def kzN (P : Int) (l : List Spn) : List Int := (List.range P.toNat).map (fun p => kdL l (p : Nat))
def kzL (P : Int) (l : List Spn) : List Int := if RightO P l then kzN P l else []
def rtO (P : Int) (l : List Spn) : Bool := decide (RightO P l)
theorem kz_t {P : Int} {l : List Spn} (h : RightO P l) : kzL P l = kzN P l ∧ rtO P l = true := ⟨if_pos h, decide_eq_true h⟩
theorem kz_f {P : Int} {l : List Spn} (h : ¬ RightO P l) : kzL P l = [] ∧ rtO P l = false := ⟨if_neg h, decide_eq_false h⟩
theorem kzN_len (P : Int) (l : List Spn) : (kzN P l).length = P.toNat := by simp [kzN]
theorem kzN_at {P : Int} {l : List Spn} {i : Nat} (h : i < P.toNat) (d : Int) : (kzN P l).getD i d = kdL l i := by simp [kzN, List.getD, h]
theorem RightO.small {P : Int} {l : List Spn} (h : RightO P l) {o : Spn} (hs : o.sz ≤ 120) : RightO P (l ++ [o]) ↔ InC P o ∧ (kdL l (pgA o) = -1 ∨ kdL l (pgA o) = clN o.sz) ∧ ∀ a ∈ l, a.pos ≠ o.pos := by
  rw [rightO_snoc, fit_small h hs]
  exact ⟨fun x => x.2, fun x => ⟨h, x⟩⟩
theorem RightO.large {P : Int} {l : List Spn} (h : RightO P l) {o : Spn} (hs : ¬ o.sz ≤ 120) : RightO P (l ++ [o]) ↔ InC P o ∧ ∀ p, HasC o p → kdL l p = -1 := by
  rw [rightO_snoc]
  exact ⟨fun x => ⟨x.2.1, (fit_large h x.2.1 hs).1 x.2.2⟩, fun x => ⟨h, x.1, (fit_large h x.1 hs).2 x.2⟩⟩
end Go.Proofs.YtlghhhhgfnnjgabDoor
