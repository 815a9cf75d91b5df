/- Slots of a table in plain words: which are right, which are open, what is taken and freed, their words, and back. -/
import Derived.Test.YtijfiaggneeibaaMath
import Derived.Test.YtijfiaggneeibaaRg
namespace Go.Proofs.Ytijfiaggneeibaa
set_option maxRecDepth 100000
open Go.RowKit
set_option linter.unusedVariables false

structure Slt where
  gen : Int
  live : Bool
  two : Bool
  pos : Int
  len : Int
def Slt.z : Slt := ⟨0, false, false, 0, 0⟩
instance : Inhabited Slt := ⟨Slt.z⟩
theorem Slt.ext' {a b : Slt} (h0 : a.gen = b.gen) (h1 : a.live = b.live) (h2 : a.two = b.two) (h3 : a.pos = b.pos) (h4 : a.len = b.len) : a = b := by
  cases a; cases b; simp_all
instance : DecidableEq Slt := fun a b =>
  if h : a.gen = b.gen ∧ a.live = b.live ∧ a.two = b.two ∧ a.pos = b.pos ∧ a.len = b.len then .isTrue (Slt.ext' h.1 h.2.1 h.2.2.1 h.2.2.2.1 h.2.2.2.2)
  else .isFalse (fun e => h (by subst e; exact ⟨rfl, rfl, rfl, rfl, rfl⟩))
/-- Its numbers are numbers that an int64 bears. -/
structure RgS (s : Slt) : Prop where
  g : Rg s.gen
  p : Rg s.pos
  l : Rg s.len
def sg (l : List Slt) (i : Nat) : Slt := l.getD i Slt.z
theorem sg_set_same (l : List Slt) (k : Nat) (s : Slt) (h : k < l.length) : sg (l.set k s) k = s := by simp [sg, List.getD, h]
theorem sg_set_other (l : List Slt) (k i : Nat) (s : Slt) (h : k ≠ i) : sg (l.set k s) i = sg l i := by simp [sg, List.getD, List.getElem?_set_ne h]
theorem sg_mem {l : List Slt} {i : Nat} (h : i < l.length) : sg l i ∈ l := by
  simp only [sg, List.getD, List.getElem?_eq_getElem h, Option.getD_some]
  exact List.getElem_mem h
theorem ext_sg {a b : List Slt} (h : a.length = b.length) (k : ∀ i, i < a.length → sg a i = sg b i) : a = b := by
  apply List.ext_getElem?
  intro i
  by_cases hi : i < a.length
  · have hb : i < b.length := by omega
    have := k i hi
    simp only [sg, List.getD, List.getElem?_eq_getElem hi, List.getElem?_eq_getElem hb, Option.getD_some] at this
    rw [List.getElem?_eq_getElem hi, List.getElem?_eq_getElem hb, this]
  · rw [List.getElem?_eq_none (by omega), List.getElem?_eq_none (by omega)]

/-- May a slot be so? -/
def MayS (s : Slt) : Prop := (0 ≤ s.gen ∧ s.gen ≤ 65535) ∧ ((s.live = true ∧ 0 ≤ s.pos ∧ s.pos ≤ 2048 ∧ 1 ≤ s.len ∧ s.len ≤ 2048) ∨ (s.live = false ∧ s.two = false ∧ s.pos = 0 ∧ s.len = 0))
instance (s : Slt) : Decidable (MayS s) := by unfold MayS; infer_instance
def mayB (s : Slt) : Bool := decide (MayS s)
theorem mayB_t {s : Slt} (h : MayS s) : mayB s = true := decide_eq_true h
theorem mayB_f {s : Slt} (h : ¬ MayS s) : mayB s = false := decide_eq_false h
/-- May a table have so many? -/
def SizT (n : Int) : Prop := 2 ≤ n ∧ n ≤ 32 ∧ n % 2 = 0
instance (n : Int) : Decidable (SizT n) := by unfold SizT; infer_instance
def sizB (n : Int) : Bool := decide (SizT n)
theorem sizB_t {n : Int} (h : SizT n) : sizB n = true := decide_eq_true h
theorem sizB_f {n : Int} (h : ¬ SizT n) : sizB n = false := decide_eq_false h
theorem sizB_iff {n : Int} : sizB n = true ↔ SizT n := decide_eq_true_iff
/-- Is a table right? -/
def RightT (l : List Slt) : Prop := SizT l.length ∧ ∀ s ∈ l, MayS s
instance (l : List Slt) : Decidable (RightT l) := by unfold RightT; infer_instance
def rightB (l : List Slt) : Bool := decide (RightT l)
theorem rightB_t {l : List Slt} (h : RightT l) : rightB l = true := decide_eq_true h
theorem rightB_f {l : List Slt} (h : ¬ RightT l) : rightB l = false := decide_eq_false h
theorem RightT.len {l : List Slt} (h : RightT l) : 2 ≤ l.length ∧ l.length ≤ 32 ∧ l.length % 2 = 0 := by
  obtain ⟨h1, h2, h3⟩ := h.1
  omega
theorem RightT.may {l : List Slt} (h : RightT l) {i : Nat} (hi : i < l.length) : MayS (sg l i) := h.2 _ (sg_mem hi)
theorem RightT.set {l : List Slt} (h : RightT l) (k : Nat) {s : Slt} (hs : MayS s) : RightT (l.set k s) := by
  refine ⟨by rw [List.length_set]; exact h.1, fun x hx => ?_⟩
  rcases List.mem_or_eq_of_mem_set hx with hx | rfl
  · exact h.2 x hx
  · exact hs
theorem may_all {l : List Slt} {k : Nat} (h : ∀ i, i < k → MayS (sg l i)) (hk : k = l.length) : ∀ s ∈ l, MayS s := by
  intro s hs
  obtain ⟨i, hi, e⟩ := List.getElem_of_mem hs
  have := h i (by omega)
  simp only [sg, List.getD, List.getElem?_eq_getElem hi, Option.getD_some, e] at this
  exact this
/-- Is a slot open? -/
def OpenS (s : Slt) : Prop := s.live = false ∧ s.gen ≠ 65535
instance (s : Slt) : Decidable (OpenS s) := by unfold OpenS; infer_instance
def openB (s : Slt) : Bool := decide (OpenS s)
theorem openB_t {s : Slt} (h : OpenS s) : openB s = true := decide_eq_true h
theorem openB_f {s : Slt} (h : ¬ OpenS s) : openB s = false := decide_eq_false h
theorem openB_iff {s : Slt} : openB s = true ↔ OpenS s := decide_eq_true_iff

/-- The indices of the open ones below k, rising; the greatest of them. -/
def chN (l : List Slt) : Nat → List Nat
  | 0 => []
  | k + 1 => chN l k ++ (if openB (sg l k) then [k] else [])
def chT (l : List Slt) : List Nat := chN l l.length
def lastO (l : List Slt) : Nat → Option Nat
  | 0 => none
  | k + 1 => if openB (sg l k) then some k else lastO l k
theorem chN_yes {l : List Slt} {k : Nat} (h : openB (sg l k) = true) : chN l (k + 1) = chN l k ++ [k] := by simp [chN, h]
theorem chN_no {l : List Slt} {k : Nat} (h : openB (sg l k) = false) : chN l (k + 1) = chN l k := by simp [chN, h]
theorem mem_chN {l : List Slt} {k j : Nat} : j ∈ chN l k ↔ j < k ∧ openB (sg l j) = true := by
  induction k with
  | zero => simp [chN]
  | succ k ih =>
    cases h : openB (sg l k) with
    | true =>
      rw [chN_yes h, List.mem_append, ih, List.mem_singleton]
      constructor
      · rintro (⟨h1, h2⟩ | rfl)
        · exact ⟨by omega, h2⟩
        · exact ⟨by omega, h⟩
      · rintro ⟨h1, h2⟩
        by_cases e : j = k
        · exact Or.inr e
        · exact Or.inl ⟨by omega, h2⟩
    | false =>
      rw [chN_no h, ih]
      constructor
      · rintro ⟨h1, h2⟩; exact ⟨by omega, h2⟩
      · rintro ⟨h1, h2⟩
        have : j ≠ k := by rintro rfl; rw [h] at h2; cases h2
        exact ⟨by omega, h2⟩
theorem chN_length (l : List Slt) (k : Nat) : (chN l k).length ≤ k := by
  induction k with
  | zero => simp [chN]
  | succ k ih =>
    cases h : openB (sg l k) with
    | true => rw [chN_yes h]; simp; omega
    | false => rw [chN_no h]; omega
theorem lastO_some {l : List Slt} {c j : Nat} (h : lastO l c = some j) : j < c ∧ openB (sg l j) = true ∧ (∀ i, j < i → i < c → openB (sg l i) = false) ∧ chN l c = chN l j ++ [j] := by
  induction c with
  | zero => simp [lastO] at h
  | succ c ih =>
    cases ho : openB (sg l c) with
    | true =>
      simp [lastO, ho] at h
      subst h
      exact ⟨by omega, ho, fun i h1 h2 => by omega, chN_yes ho⟩
    | false =>
      simp [lastO, ho] at h
      obtain ⟨h1, h2, h3, h4⟩ := ih h
      refine ⟨by omega, h2, fun i h5 h6 => ?_, by rw [chN_no ho]; exact h4⟩
      by_cases e : i = c
      · rw [e]; exact ho
      · exact h3 i h5 (by omega)
theorem lastO_none {l : List Slt} {c : Nat} (h : lastO l c = none) : chN l c = [] ∧ ∀ i, i < c → openB (sg l i) = false := by
  induction c with
  | zero => exact ⟨rfl, fun i hi => by omega⟩
  | succ c ih =>
    cases ho : openB (sg l c) with
    | true => simp [lastO, ho] at h
    | false =>
      simp [lastO, ho] at h
      obtain ⟨h1, h2⟩ := ih h
      refine ⟨by rw [chN_no ho]; exact h1, fun i hi => ?_⟩
      by_cases e : i = c
      · rw [e]; exact ho
      · exact h2 i (by omega)
theorem lastO_yes {l : List Slt} {k : Nat} (h : openB (sg l k) = true) : lastO l (k + 1) = some k := by simp [lastO, h]
theorem lastO_no {l : List Slt} {k : Nat} (h : openB (sg l k) = false) : lastO l (k + 1) = lastO l k := by simp [lastO, h]
theorem chN_sorted (l : List Slt) (k : Nat) : (chN l k).Pairwise (· < ·) := by
  induction k with
  | zero => simp [chN]
  | succ k ih =>
    cases h : openB (sg l k) with
    | true =>
      rw [chN_yes h, List.pairwise_append]
      refine ⟨ih, by simp, fun a ha b hb => ?_⟩
      rw [List.mem_singleton] at hb
      have := (mem_chN.1 ha).1
      omega
    | false => rw [chN_no h]; exact ih
theorem chN_congr {l m : List Slt} {k : Nat} (h : ∀ i, i < k → openB (sg l i) = openB (sg m i)) : chN l k = chN m k := by
  induction k with
  | zero => rfl
  | succ k ih => simp only [chN]; rw [ih (fun i hi => h i (by omega)), h k (by omega)]

/-- The least open one; is there one? -/
def nxN (l : List Slt) : Nat := (chT l).headD 0
def nxB (l : List Slt) : Bool := decide (chT l ≠ [])
theorem nx_of {l : List Slt} {j : Nat} {r : List Nat} (h : chT l = j :: r) : nxN l = j ∧ nxB l = true := by simp [nxN, nxB, h]
theorem nx_none {l : List Slt} (h : chT l = []) : nxN l = 0 ∧ nxB l = false := by simp [nxN, nxB, h]
theorem nx_spec {l : List Slt} (h : chT l ≠ []) : nxN l < l.length ∧ OpenS (sg l (nxN l)) ∧ ∀ i, i < nxN l → ¬ OpenS (sg l i) := by
  cases e : chT l with
  | nil => exact absurd e h
  | cons j r =>
    rw [(nx_of e).1]
    have hj : j ∈ chT l := by rw [e]; simp
    obtain ⟨h1, h2⟩ := mem_chN.1 hj
    refine ⟨h1, openB_iff.1 h2, fun i hi ho => ?_⟩
    have hm : i ∈ chT l := mem_chN.2 ⟨by omega, openB_iff.2 ho⟩
    have hs := chN_sorted l l.length
    have e' : chN l l.length = j :: r := e
    rw [e', List.pairwise_cons] at hs
    rw [e, List.mem_cons] at hm
    rcases hm with rfl | hm
    · omega
    · have := hs.1 i hm
      omega
/-- What a slot that is taken becomes. -/
def tkS (l : List Slt) (s : Slt) : Slt := ⟨(sg l (nxN l)).gen, true, s.two, s.pos, s.len⟩
def TkOk (l : List Slt) (s : Slt) : Prop := RightT l ∧ chT l ≠ [] ∧ MayS (tkS l s)
instance (l : List Slt) (s : Slt) : Decidable (TkOk l s) := by unfold TkOk; infer_instance
def tkE (l : List Slt) (s : Slt) : Int := if RightT l then (if chT l = [] then 9 else if MayS (tkS l s) then 0 else 1) else 1
def tkL (l : List Slt) (s : Slt) : List Slt := if TkOk l s then l.set (nxN l) (tkS l s) else []
def tkI (l : List Slt) (s : Slt) : Int := if TkOk l s then (nxN l : Nat) else 0
def tkG (l : List Slt) (s : Slt) : Int := if TkOk l s then (sg l (nxN l)).gen else 0
theorem tk_t {l : List Slt} {s : Slt} (h : TkOk l s) : tkE l s = 0 ∧ tkL l s = l.set (nxN l) (tkS l s) ∧ tkI l s = (nxN l : Nat) ∧ tkG l s = (sg l (nxN l)).gen := by
  refine ⟨?_, if_pos h, if_pos h, if_pos h⟩
  unfold tkE
  rw [if_pos h.1, if_neg h.2.1, if_pos h.2.2]
theorem tk_f {l : List Slt} {s : Slt} (h : ¬ TkOk l s) : tkL l s = [] ∧ tkI l s = 0 ∧ tkG l s = 0 ∧ (tkE l s = 1 ∨ tkE l s = 9) := by
  refine ⟨if_neg h, if_neg h, if_neg h, ?_⟩
  unfold tkE
  by_cases h1 : RightT l
  · rw [if_pos h1]
    by_cases h2 : chT l = []
    · rw [if_pos h2]; exact Or.inr rfl
    · rw [if_neg h2, if_neg (fun h3 => h ⟨h1, h2, h3⟩)]; exact Or.inl rfl
  · rw [if_neg h1]; exact Or.inl rfl
theorem tkE_right {l : List Slt} {s : Slt} (h : ¬ RightT l) : tkE l s = 1 := if_neg h
theorem tkE_none {l : List Slt} {s : Slt} (h : RightT l) (h2 : chT l = []) : tkE l s = 9 := by unfold tkE; rw [if_pos h, if_pos h2]
theorem tkE_may {l : List Slt} {s : Slt} (h : RightT l) (h2 : ¬ chT l = []) (h3 : ¬ MayS (tkS l s)) : tkE l s = 1 := by unfold tkE; rw [if_pos h, if_neg h2, if_neg h3]
/-- What a slot that is freed becomes. -/
def frS (s : Slt) : Slt := ⟨min (s.gen + 1) 65535, false, false, 0, 0⟩
def FrOk (l : List Slt) (k : Int) : Prop := RightT l ∧ 0 ≤ k ∧ k < l.length ∧ (sg l k.toNat).live = true
instance (l : List Slt) (k : Int) : Decidable (FrOk l k) := by unfold FrOk; infer_instance
def frE (l : List Slt) (k : Int) : Int := if FrOk l k then 0 else 1
def frL (l : List Slt) (k : Int) : List Slt := if FrOk l k then l.set k.toNat (frS (sg l k.toNat)) else []
theorem fr_t {l : List Slt} {k : Int} (h : FrOk l k) : frE l k = 0 ∧ frL l k = l.set k.toNat (frS (sg l k.toNat)) := ⟨if_pos h, if_pos h⟩
theorem fr_f {l : List Slt} {k : Int} (h : ¬ FrOk l k) : frE l k = 1 ∧ frL l k = [] := ⟨if_neg h, if_neg h⟩
theorem frS_may {s : Slt} (h : MayS s) : MayS (frS s) := by
  obtain ⟨h1, _⟩ := h
  refine ⟨⟨?_, ?_⟩, Or.inr ⟨rfl, rfl, rfl, rfl⟩⟩ <;> (simp only [frS]; omega)
/-- What is found. -/
def FnOk (l : List Slt) (I G : Int) : Prop := 0 ≤ I ∧ I < l.length ∧ (sg l I.toNat).live = true ∧ (sg l I.toNat).gen = G
instance (l : List Slt) (I G : Int) : Decidable (FnOk l I G) := by unfold FnOk; infer_instance
def fnI (l : List Slt) (I G : Int) : Int := if FnOk l I G then I else 0
def fnB (l : List Slt) (I G : Int) : Bool := decide (FnOk l I G)
theorem fn_t {l : List Slt} {I G : Int} (h : FnOk l I G) : fnI l I G = I ∧ fnB l I G = true := ⟨if_pos h, decide_eq_true h⟩
theorem fn_f {l : List Slt} {I G : Int} (h : ¬ FnOk l I G) : fnI l I G = 0 ∧ fnB l I G = false := ⟨if_neg h, decide_eq_false h⟩
/-- A table as at first. -/
def nwE (n : Int) : Int := if SizT n then 0 else 1
def nwL (n : Int) : List Slt := if SizT n then List.replicate n.toNat Slt.z else []
theorem nw_t {n : Int} (h : SizT n) : nwE n = 0 ∧ nwL n = List.replicate n.toNat Slt.z := ⟨if_pos h, if_pos h⟩
theorem nw_f {n : Int} (h : ¬ SizT n) : nwE n = 1 ∧ nwL n = [] := ⟨if_neg h, if_neg h⟩

/-- The first word of a slot; the last. -/
def hdS (s : Slt) : Int := 4 * s.gen + (if s.live then 2 else 0) + (if s.two then 1 else 0)
def lkF (l : List Slt) : Nat → Nat → Int
  | 0, _ => 0
  | f + 1, c => if openB (sg l c) then ((c + 1 : Nat) : Int) else lkF l f (c + 1)
/-- One more than the first open one from c on, or 0. -/
def lk (l : List Slt) (c : Nat) : Int := lkF l (l.length - c) c
theorem lk_end {l : List Slt} {c : Nat} (h : l.length ≤ c) : lk l c = 0 := by unfold lk; rw [show l.length - c = 0 by omega]; rfl
theorem lk_yes {l : List Slt} {c : Nat} (h : c < l.length) (ho : openB (sg l c) = true) : lk l c = ((c + 1 : Nat) : Int) := by
  unfold lk
  rw [show l.length - c = (l.length - (c + 1)) + 1 by omega]
  simp [lkF, ho]
theorem lk_no {l : List Slt} {c : Nat} (h : c < l.length) (ho : openB (sg l c) = false) : lk l c = lk l (c + 1) := by
  unfold lk
  rw [show l.length - c = (l.length - (c + 1)) + 1 by omega]
  simp [lkF, ho]
theorem lk_skip {l : List Slt} {a b : Nat} (hab : a ≤ b) (hb : b ≤ l.length) (h : ∀ i, a ≤ i → i < b → openB (sg l i) = false) : lk l a = lk l b := by
  induction b with
  | zero => rw [show a = 0 by omega]
  | succ b ih =>
    by_cases e : a = b + 1
    · rw [e]
    · rw [ih (by omega) (by omega) (fun i h1 h2 => h i h1 (by omega)), lk_no (by omega) (h b (by omega) (by omega))]
theorem lk_bound (l : List Slt) (c : Nat) : 0 ≤ lk l c ∧ lk l c ≤ l.length := by
  by_cases hc : l.length ≤ c
  · rw [lk_end hc]; omega
  · obtain ⟨d, hd⟩ : ∃ d, d = l.length - c := ⟨_, rfl⟩
    induction d generalizing c with
    | zero => omega
    | succ d ih =>
      cases ho : openB (sg l c) with
      | true => rw [lk_yes (by omega) ho]; omega
      | false =>
        rw [lk_no (by omega) ho]
        by_cases h1 : l.length ≤ c + 1
        · rw [lk_end h1]; omega
        · exact ih (c + 1) h1 (by omega)
def lnk (l : List Slt) (i : Nat) : Int := if openB (sg l i) then lk l (i + 1) else 0
theorem lnk_yes {l : List Slt} {i : Nat} (h : openB (sg l i) = true) : lnk l i = lk l (i + 1) := by simp [lnk, h]
theorem lnk_no {l : List Slt} {i : Nat} (h : openB (sg l i) = false) : lnk l i = 0 := by simp [lnk, h]
/-- A word of a slot, its link laid from c on. -/
def wdT (l : List Slt) (c i : Nat) : Nat → Int
  | 0 => hdS (sg l i)
  | 1 => (sg l i).pos
  | 2 => (sg l i).len
  | _ => if c ≤ i then lnk l i else 0
/-- The words of a table, the links laid from c on; the words of the first k slots without links. -/
def rowP (l : List Slt) (c : Nat) : List Int := (List.range (l.length * 4)).map fun i => wdT l c (i / 4) (i % 4)
def rowK (l : List Slt) (k : Nat) : List Int := (List.range (l.length * 4)).map fun i => if i / 4 < k then wdT l l.length (i / 4) (i % 4) else 0
def rowT (l : List Slt) : List Int := rowP l 0
theorem rowP_length (l : List Slt) (c : Nat) : (rowP l c).length = l.length * 4 := by simp [rowP]
theorem rowK_length (l : List Slt) (c : Nat) : (rowK l c).length = l.length * 4 := by simp [rowK]
theorem rowT_length (l : List Slt) : (rowT l).length = l.length * 4 := rowP_length l 0
theorem rowP_at (l : List Slt) (c : Nat) {i : Nat} (h : i < l.length * 4) : (rowP l c)[i]? = some (wdT l c (i / 4) (i % 4)) := by simp [rowP, h]
theorem rowK_at (l : List Slt) (c : Nat) {i : Nat} (h : i < l.length * 4) : (rowK l c)[i]? = some (if i / 4 < c then wdT l l.length (i / 4) (i % 4) else 0) := by simp [rowK, h]
theorem rowT_get (l : List Slt) {k : Nat} (h : k < l.length) : (rowT l).getD (k * 4) 0 = hdS (sg l k) ∧ (rowT l).getD (k * 4 + 1) 0 = (sg l k).pos ∧ (rowT l).getD (k * 4 + 2) 0 = (sg l k).len ∧ (rowT l).getD (k * 4 + 3) 0 = lnk l k := by
  refine ⟨?_, ?_, ?_, ?_⟩
  · rw [List.getD, rowT, rowP_at l 0 (by omega), show k * 4 / 4 = k by omega, show k * 4 % 4 = 0 by omega]; rfl
  · rw [List.getD, rowT, rowP_at l 0 (by omega), show (k * 4 + 1) / 4 = k by omega, show (k * 4 + 1) % 4 = 1 by omega]; rfl
  · rw [List.getD, rowT, rowP_at l 0 (by omega), show (k * 4 + 2) / 4 = k by omega, show (k * 4 + 2) % 4 = 2 by omega]; rfl
  · rw [List.getD, rowT, rowP_at l 0 (by omega), show (k * 4 + 3) / 4 = k by omega, show (k * 4 + 3) % 4 = 3 by omega]; simp [wdT]
theorem rowK_zero (l : List Slt) : rowK l 0 = List.replicate (l.length * 4) 0 := by
  apply List.ext_getElem?; intro i
  by_cases h : i < l.length * 4
  · rw [rowK_at l 0 h, if_neg (by omega)]; simp [h]
  · rw [List.getElem?_eq_none (by rw [rowK_length]; omega), List.getElem?_eq_none (by simp; omega)]
theorem rowK_full (l : List Slt) : rowK l l.length = rowP l l.length := by
  apply List.ext_getElem?; intro i
  by_cases h : i < l.length * 4
  · rw [rowK_at l _ h, rowP_at l _ h, if_pos (by omega)]
  · rw [List.getElem?_eq_none (by rw [rowK_length]; omega), List.getElem?_eq_none (by rw [rowP_length]; omega)]
/-- Three words laid from a place on. -/
def lay3 (zs : List Int) (o : Nat) (s : Slt) : List Int := ((zs.set o (hdS s)).set (o + 1) s.pos).set (o + 2) s.len
theorem lay3_length (zs : List Int) (o : Nat) (s : Slt) : (lay3 zs o s).length = zs.length := by simp [lay3]
theorem rowK_lay (l : List Slt) {k : Nat} (h : k < l.length) : lay3 (rowK l k) (k * 4) (sg l k) = rowK l (k + 1) := by
  apply List.ext_getElem?; intro i
  by_cases hi : i < l.length * 4
  · rw [rowK_at l _ hi]
    unfold lay3
    rw [List.getElem?_set, List.getElem?_set, List.getElem?_set]
    simp only [List.length_set, rowK_length]
    by_cases h2 : k * 4 + 2 = i
    · rw [if_pos h2, if_pos (by omega), if_pos (by omega), show i / 4 = k by omega, show i % 4 = 2 by omega]; rfl
    · rw [if_neg h2]
      by_cases h1 : k * 4 + 1 = i
      · rw [if_pos h1, if_pos (by omega), if_pos (by omega), show i / 4 = k by omega, show i % 4 = 1 by omega]; rfl
      · rw [if_neg h1]
        by_cases h0 : k * 4 = i
        · rw [if_pos h0, if_pos (by omega), if_pos (by omega), show i / 4 = k by omega, show i % 4 = 0 by omega]; rfl
        · rw [if_neg h0, rowK_at l _ hi]
          by_cases h3 : i = k * 4 + 3
          · rw [if_neg (by omega), if_pos (by omega), show i / 4 = k by omega, show i % 4 = 3 by omega]
            simp only [wdT]
            rw [if_neg (by omega)]
          · by_cases h5 : i / 4 < k
            · rw [if_pos h5, if_pos (by omega)]
            · rw [if_neg h5, if_neg (by omega)]
  · rw [List.getElem?_eq_none (by rw [lay3_length, rowK_length]; omega), List.getElem?_eq_none (by rw [rowK_length]; omega)]
/-- A link more. -/
theorem rowP_link (l : List Slt) {c j : Nat} (hc : c ≤ l.length) (h : lastO l c = some j) : (rowP l c).set (j * 4 + 3) (lk l c) = rowP l j ∧ lk l j = ((j + 1 : Nat) : Int) := by
  obtain ⟨h1, h2, h3, _⟩ := lastO_some h
  have e : lk l (j + 1) = lk l c := lk_skip (by omega) hc (fun i a b => h3 i (by omega) b)
  refine ⟨?_, lk_yes (by omega) h2⟩
  apply List.ext_getElem?; intro i
  by_cases hi : i < l.length * 4
  · rw [List.getElem?_set, rowP_at l _ hi, rowP_at l _ hi, rowP_length]
    by_cases e0 : j * 4 + 3 = i
    · rw [if_pos e0, if_pos (by omega), show i / 4 = j by omega, show i % 4 = 3 by omega]
      simp only [wdT]
      rw [if_pos (Nat.le_refl _), lnk_yes h2, e]
    · rw [if_neg e0]
      have hr : i % 4 < 4 := Nat.mod_lt _ (by omega)
      have key : i % 4 = 3 → wdT l c (i / 4) (i % 4) = wdT l j (i / 4) (i % 4) := fun e1 => by
        rw [e1]
        simp only [wdT]
        by_cases h5 : c ≤ i / 4
        · rw [if_pos h5, if_pos (by omega)]
        · rw [if_neg h5]
          by_cases h6 : j ≤ i / 4
          · rw [if_pos h6, lnk_no (h3 _ (by omega) (by omega))]
          · rw [if_neg h6]
      rcases (show i % 4 = 0 ∨ i % 4 = 1 ∨ i % 4 = 2 ∨ i % 4 = 3 by omega) with e1 | e1 | e1 | e1
      · rw [e1]; rfl
      · rw [e1]; rfl
      · rw [e1]; rfl
      · rw [key e1]
  · rw [List.getElem?_eq_none (by rw [List.length_set, rowP_length]; omega), List.getElem?_eq_none (by rw [rowP_length]; omega)]
theorem rowP_none (l : List Slt) {c : Nat} (hc : c ≤ l.length) (h : lastO l c = none) : rowP l c = rowT l := by
  obtain ⟨_, h2⟩ := lastO_none h
  apply List.ext_getElem?; intro i
  by_cases hi : i < l.length * 4
  · rw [rowT, rowP_at l _ hi, rowP_at l _ hi]
    rcases (show i % 4 = 0 ∨ i % 4 = 1 ∨ i % 4 = 2 ∨ i % 4 = 3 by omega) with e1 | e1 | e1 | e1
    · rw [e1]; rfl
    · rw [e1]; rfl
    · rw [e1]; rfl
    · rw [e1]
      simp only [wdT]
      rw [if_pos (Nat.zero_le _)]
      by_cases h5 : c ≤ i / 4
      · rw [if_pos h5]
      · rw [if_neg h5, lnk_no (h2 _ (by omega))]
  · rw [List.getElem?_eq_none (by rw [rowP_length]; omega), List.getElem?_eq_none (by rw [rowT_length]; omega)]
theorem hdS_bound {s : Slt} (h : MayS s) : 0 ≤ hdS s ∧ hdS s ≤ 262143 := by
  obtain ⟨h1, _⟩ := h
  unfold hdS
  cases s.live <;> cases s.two <;> simp <;> omega
theorem rowT_ok {l : List Slt} (h : RightT l) : okL (rowT l) = true := by
  unfold okL
  rw [List.all_eq_true]
  intro x hx
  obtain ⟨i, hi, e⟩ := List.getElem_of_mem hx
  have hi' : i < l.length * 4 := by rw [rowT_length] at hi; exact hi
  have e2 : (rowT l)[i]? = some x := by rw [List.getElem?_eq_getElem hi, e]
  rw [rowT, rowP_at l 0 hi'] at e2
  simp only [Option.some.injEq] at e2
  have hm := h.may (show i / 4 < l.length by omega)
  have hl := h.len
  have hh := hdS_bound hm
  have hk := lk_bound l (i / 4 + 1)
  obtain ⟨_, hm2⟩ := hm
  rcases (show i % 4 = 0 ∨ i % 4 = 1 ∨ i % 4 = 2 ∨ i % 4 = 3 by omega) with e1 | e1 | e1 | e1
  · rw [e1] at e2; simp only [wdT] at e2; exact fitB_t (by omega) (by omega)
  · rw [e1] at e2; simp only [wdT] at e2; exact fitB_t (by omega) (by omega)
  · rw [e1] at e2; simp only [wdT] at e2; exact fitB_t (by omega) (by omega)
  · rw [e1] at e2
    simp only [wdT] at e2
    rw [if_pos (Nat.zero_le _)] at e2
    cases ho : openB (sg l (i / 4)) with
    | true => rw [lnk_yes ho] at e2; exact fitB_t (by omega) (by omega)
    | false => rw [lnk_no ho] at e2; exact fitB_t (by omega) (by omega)

/-- A slot out of its words. -/
def slW (a b c : Int) : Slt := ⟨a / 4, decide (2 ≤ a % 4), decide (a % 2 = 1), b, c⟩
theorem slW_hd {s : Slt} (h : MayS s) : slW (hdS s) s.pos s.len = s := by
  obtain ⟨⟨h1, h2⟩, _⟩ := h
  have key : ∀ (g : Int) (b c : Bool), (4 * g + (if b then 2 else 0) + (if c then 1 else 0)) / 4 = g ∧ decide (2 ≤ (4 * g + (if b then 2 else 0) + (if c then 1 else 0)) % 4) = b ∧ decide ((4 * g + (if b then 2 else 0) + (if c then 1 else 0)) % 2 = 1) = c := by
    intro g b c
    cases b <;> cases c <;> simp <;> omega
  obtain ⟨k1, k2, k3⟩ := key s.gen s.live s.two
  exact Slt.ext' k1 k2 k3 rfl rfl
def slT (ws : List Int) (m : Nat) : List Slt := (List.range m).map fun k => slW (ws.getD (k * 4) 0) (ws.getD (k * 4 + 1) 0) (ws.getD (k * 4 + 2) 0)
theorem slT_length (ws : List Int) (m : Nat) : (slT ws m).length = m := by simp [slT]
theorem slT_at (ws : List Int) {m k : Nat} (h : k < m) : sg (slT ws m) k = slW (ws.getD (k * 4) 0) (ws.getD (k * 4 + 1) 0) (ws.getD (k * 4 + 2) 0) := by simp [sg, slT, List.getD, h]
theorem slT_succ (ws : List Int) (m : Nat) : slT ws (m + 1) = slT ws m ++ [slW (ws.getD (m * 4) 0) (ws.getD (m * 4 + 1) 0) (ws.getD (m * 4 + 2) 0)] := by simp [slT, List.range_succ]
/-- The table that bytes would be; are they its bytes? -/
def rdT (zs : List Int) : List Slt := slT (allR zs) ((allR zs).length / 4)
def RdOk (zs : List Int) : Prop := RightT (rdT zs) ∧ ofL (rowT (rdT zs)) = zs
instance (zs : List Int) : Decidable (RdOk zs) := by unfold RdOk; infer_instance
def rdB (zs : List Int) : Bool := decide (RdOk zs)
def rdL (zs : List Int) : List Slt := if RdOk zs then rdT zs else []
theorem rd_t {zs : List Int} (h : RdOk zs) : rdB zs = true ∧ rdL zs = rdT zs := ⟨decide_eq_true h, if_pos h⟩
theorem rd_f {zs : List Int} (h : ¬ RdOk zs) : rdB zs = false ∧ rdL zs = [] := ⟨decide_eq_false h, if_neg h⟩
theorem RdOk.size {zs : List Int} (h : RdOk zs) : zs.length % 32 = 0 ∧ SizT ((zs.length / 32 : Nat) : Int) ∧ allB zs = true := by
  have h1 := h.1.1
  have h2 := congrArg List.length h.2
  rw [ofL_length, rowT_length] at h2
  obtain ⟨L, hL⟩ : ∃ L, (rdT zs).length = L := ⟨_, rfl⟩
  rw [hL] at h1 h2
  refine ⟨by omega, by rw [show zs.length / 32 = L by omega]; exact h1, ?_⟩
  cases e : allB zs with
  | true => rfl
  | false =>
    have h3 : rdT zs = [] := by simp [rdT, allR_f e, slT]
    rw [h3] at hL
    have := h1.1
    simp at hL
    omega
/-- What is written is read. -/
theorem rd_row {l : List Slt} (h : RightT l) : rdT (ofL (rowT l)) = l ∧ RdOk (ofL (rowT l)) := by
  obtain ⟨h1, h2⟩ := all_of (rowT_ok h)
  have e : rdT (ofL (rowT l)) = l := by
    unfold rdT
    rw [h2, rowT_length, show l.length * 4 / 4 = l.length by omega]
    refine ext_sg (slT_length _ _) (fun i hi => ?_)
    rw [slT_length] at hi
    obtain ⟨g0, g1, g2, _⟩ := rowT_get l hi
    rw [slT_at _ hi, g0, g1, g2]
    exact slW_hd (h.may hi)
  refine ⟨e, ?_⟩
  unfold RdOk
  rw [e]
  exact ⟨h, rfl⟩
def btE (l : List Slt) : Int := if RightT l then 0 else 1
def btL (l : List Slt) : List Int := if RightT l then ofL (rowT l) else []
theorem bt_t {l : List Slt} (h : RightT l) : btE l = 0 ∧ btL l = ofL (rowT l) := ⟨if_pos h, if_pos h⟩
theorem bt_f {l : List Slt} (h : ¬ RightT l) : btE l = 1 ∧ btL l = [] := ⟨if_neg h, if_neg h⟩
end Go.Proofs.Ytijfiaggneeibaa
