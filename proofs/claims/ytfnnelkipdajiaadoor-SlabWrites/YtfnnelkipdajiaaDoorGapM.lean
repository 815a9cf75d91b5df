/- Spans in plain words: the need of bytes, which blocks are right, what is free between them and behind one, which span fits best; what follows. -/
import Derived.Test.YtfnnelkipdajiaaDoorRg
namespace Go.Proofs.YtfnnelkipdajiaaDoor
set_option maxRecDepth 100000
open Go.RowKit
set_option linter.unusedVariables false
set_option linter.unusedSimpArgs false

structure Spn where
  pos : Int
  sz : Int
def Spn.z : Spn := ⟨0, 0⟩
instance : Inhabited Spn := ⟨Spn.z⟩
theorem Spn.ext' {a b : Spn} (h0 : a.pos = b.pos) (h1 : a.sz = b.sz) : a = b := by
  cases a; cases b; simp_all
instance : DecidableEq Spn := fun a b =>
  if h : a.pos = b.pos ∧ a.sz = b.sz then .isTrue (Spn.ext' h.1 h.2)
  else .isFalse (fun e => h (by subst e; exact ⟨rfl, rfl⟩))
/-- Its numbers are numbers that an int64 bears. -/
structure RgP (s : Spn) : Prop where
  p : Rg s.pos
  z : Rg s.sz
def Spn.fin (s : Spn) : Int := s.pos + s.sz
def pa (l : List Spn) (i : Nat) : Spn := l.getD i Spn.z
theorem pa_set_same (l : List Spn) (k : Nat) (s : Spn) (h : k < l.length) : pa (l.set k s) k = s := by simp [pa, List.getD, h]
theorem pa_set_other (l : List Spn) (k i : Nat) (s : Spn) (h : k ≠ i) : pa (l.set k s) i = pa l i := by simp [pa, List.getD, List.getElem?_set_ne h]
theorem pa_mem {l : List Spn} {i : Nat} (h : i < l.length) : pa l i ∈ l := by
  simp only [pa, List.getD, List.getElem?_eq_getElem h, Option.getD_some]
  exact List.getElem_mem h
theorem mem_pa {l : List Spn} {s : Spn} (h : s ∈ l) : ∃ i, i < l.length ∧ pa l i = s := by
  obtain ⟨i, hi, e⟩ := List.getElem_of_mem h
  exact ⟨i, hi, by simp [pa, List.getD, List.getElem?_eq_getElem hi, e]⟩
theorem ext_pa {a b : List Spn} (h : a.length = b.length) (k : ∀ i, i < a.length → pa a i = pa b i) : a = b := by
  apply List.ext_getElem?
  intro i
  by_cases hi : i < a.length
  · have hb : i < b.length := by omega
    have := k i hi
    simp only [pa, List.getD, List.getElem?_eq_getElem hi, List.getElem?_eq_getElem hb, Option.getD_some] at this
    rw [List.getElem?_eq_getElem hi, List.getElem?_eq_getElem hb, this]
  · rw [List.getElem?_eq_none (by omega), List.getElem?_eq_none (by omega)]
theorem drop_pa {l : List Spn} {k : Nat} (h : k < l.length) : l.drop k = pa l k :: l.drop (k + 1) := by
  rw [List.drop_eq_getElem_cons h]
  simp [pa, List.getD, List.getElem?_eq_getElem h]
theorem take_pa {l : List Spn} {k : Nat} (h : k < l.length) : l.take (k + 1) = l.take k ++ [pa l k] := by
  rw [List.take_add_one]
  simp [pa, List.getD, List.getElem?_eq_getElem h]
theorem pa_cons_zero (s : Spn) (l : List Spn) : pa (s :: l) 0 = s := rfl
theorem pa_cons_succ (s : Spn) (l : List Spn) (k : Nat) : pa (s :: l) (k + 1) = pa l k := rfl

/-- The need of n bytes. -/
def ndN (n : Int) : Int := if 1 ≤ n ∧ n ≤ 2048 then (2 + (n + 7) / 8 + 3) / 4 * 4 else 0
def ndE (n : Int) : Int := if 1 ≤ n ∧ n ≤ 2048 then 0 else 1
theorem nd_t {n : Int} (h : 1 ≤ n ∧ n ≤ 2048) : ndN n = (2 + (n + 7) / 8 + 3) / 4 * 4 ∧ ndE n = 0 := ⟨if_pos h, if_pos h⟩
theorem nd_f {n : Int} (h : ¬ (1 ≤ n ∧ n ≤ 2048)) : ndN n = 0 ∧ ndE n = 1 := ⟨if_neg h, if_neg h⟩

/-- A block may lie between f and t. -/
def FitP (f t : Int) (s : Spn) : Prop := f ≤ s.pos ∧ s.pos % 4 = 0 ∧ 4 ≤ s.sz ∧ s.sz ≤ t - s.pos ∧ s.sz % 4 = 0
instance (f t : Int) (s : Spn) : Decidable (FitP f t s) := by unfold FitP; infer_instance
def fitPB (f t : Int) (s : Spn) : Bool := decide (FitP f t s)
theorem fitPB_t {f t : Int} {s : Spn} (h : FitP f t s) : fitPB f t s = true := decide_eq_true h
theorem fitPB_f {f t : Int} {s : Spn} (h : ¬ FitP f t s) : fitPB f t s = false := decide_eq_false h
theorem fitPB_iff {f t : Int} {s : Spn} : fitPB f t s = true ↔ FitP f t s := decide_eq_true_iff
/-- Blocks lie one behind another between f and t. -/
def LayP : Int → Int → List Spn → Prop
  | _, _, [] => True
  | f, t, s :: r => FitP f t s ∧ LayP s.fin t r
def layPD : (f t : Int) → (l : List Spn) → Decidable (LayP f t l)
  | _, _, [] => .isTrue trivial
  | f, t, s :: r =>
    match (inferInstance : Decidable (FitP f t s)), layPD s.fin t r with
    | .isTrue a, .isTrue b => .isTrue ⟨a, b⟩
    | .isFalse a, _ => .isFalse (fun h => a h.1)
    | _, .isFalse b => .isFalse (fun h => b h.2)
instance (f t : Int) (l : List Spn) : Decidable (LayP f t l) := layPD f t l
def EndP (f t : Int) : Prop := 0 ≤ f ∧ f ≤ t ∧ t ≤ 2048 ∧ f % 4 = 0 ∧ t % 4 = 0
instance (f t : Int) : Decidable (EndP f t) := by unfold EndP; infer_instance
/-- Used blocks are right. -/
def RightP (f t : Int) (l : List Spn) : Prop := EndP f t ∧ LayP f t l
instance (f t : Int) (l : List Spn) : Decidable (RightP f t l) := by unfold RightP; infer_instance
def rightPB (f t : Int) (l : List Spn) : Bool := decide (RightP f t l)
theorem rightPB_t {f t : Int} {l : List Spn} (h : RightP f t l) : rightPB f t l = true := decide_eq_true h
theorem rightPB_f {f t : Int} {l : List Spn} (h : ¬ RightP f t l) : rightPB f t l = false := decide_eq_false h
theorem lay_drop {f t : Int} {l : List Spn} {k : Nat} (h : k < l.length) : LayP f t (l.drop k) ↔ FitP f t (pa l k) ∧ LayP (pa l k).fin t (l.drop (k + 1)) := by
  rw [drop_pa h]; exact Iff.rfl
theorem lay_end {f t : Int} {l : List Spn} {k : Nat} (h : ¬ k < l.length) : LayP f t (l.drop k) := by
  rw [List.drop_of_length_le (by omega)]; trivial
theorem lay_mono {f g t : Int} {l : List Spn} (h : LayP f t l) (hg : g ≤ f) : LayP g t l := by
  cases l with
  | nil => trivial
  | cons s r => exact ⟨⟨by have := h.1.1; omega, h.1.2⟩, h.2⟩
theorem lay_fit {t : Int} {l : List Spn} : ∀ {f : Int} {i : Nat}, LayP f t l → i < l.length → FitP f t (pa l i) := by
  induction l with
  | nil => intro f i _ h; simp at h
  | cons s r ih =>
    intro f i h hi
    cases i with
    | zero => exact h.1
    | succ i =>
      have := ih h.2 (show i < r.length by simpa using hi)
      obtain ⟨⟨a1, a2, a3, a4, a5⟩, _⟩ := h
      obtain ⟨b1, b2, b3, b4, b5⟩ := this
      rw [pa_cons_succ]
      unfold Spn.fin at b1
      exact ⟨by omega, b2, b3, b4, b5⟩
theorem lay_order {t : Int} {l : List Spn} : ∀ {f : Int} {i j : Nat}, LayP f t l → i < j → j < l.length → (pa l i).fin ≤ (pa l j).pos := by
  induction l with
  | nil => intro f i j _ _ h; simp at h
  | cons s r ih =>
    intro f i j h hij hj
    cases j with
    | zero => omega
    | succ j =>
      have hj' : j < r.length := by simpa using hj
      cases i with
      | zero => rw [pa_cons_zero, pa_cons_succ]; exact (lay_fit h.2 hj').1
      | succ i => rw [pa_cons_succ, pa_cons_succ]; exact ih h.2 (by omega) hj'
theorem lay_ne {f t : Int} {l : List Spn} {i j : Nat} (h : LayP f t l) (hi : i < l.length) (hj : j < l.length) (hne : i ≠ j) : pa l i ≠ pa l j := by
  intro e
  rcases Nat.lt_or_gt_of_ne hne with h1 | h1
  · have a := lay_order h h1 hj
    have b := (lay_fit h hi).2.2.1
    rw [← e] at a
    unfold Spn.fin at a
    omega
  · have a := lay_order h h1 hi
    have b := (lay_fit h hj).2.2.1
    rw [e] at a
    unfold Spn.fin at a
    omega
theorem lay_len {t : Int} {l : List Spn} : ∀ {f : Int}, LayP f t l → f ≤ t → 4 * (l.length : Int) ≤ t - f := by
  induction l with
  | nil => intro f _ h; simp; omega
  | cons s r ih =>
    intro f h hf
    obtain ⟨⟨a1, a2, a3, a4, a5⟩, h2⟩ := h
    have := ih h2 (by unfold Spn.fin; omega)
    unfold Spn.fin at this
    simp only [List.length_cons]
    omega
theorem RightP.len {f t : Int} {l : List Spn} (h : RightP f t l) : l.length ≤ 512 := by
  obtain ⟨⟨a1, a2, a3, _⟩, h2⟩ := h
  have := lay_len h2 a2
  omega
theorem RightP.fit {f t : Int} {l : List Spn} (h : RightP f t l) {i : Nat} (hi : i < l.length) : FitP f t (pa l i) := lay_fit h.2 hi

/-- What is free between a and b. -/
def gap1 (a b : Int) : List Spn := if a < b then [⟨a, b - a⟩] else []
theorem gap1_t {a b : Int} (h : a < b) : gap1 a b = [⟨a, b - a⟩] := if_pos h
theorem gap1_f {a b : Int} (h : ¬ a < b) : gap1 a b = [] := if_neg h
/-- The gaps from a on. -/
def gapsL : Int → Int → List Spn → List Spn
  | a, t, [] => gap1 a t
  | a, t, s :: r => gap1 a s.pos ++ gapsL s.fin t r
theorem gaps_drop {a t : Int} {l : List Spn} {k : Nat} (h : k < l.length) : gapsL a t (l.drop k) = gap1 a (pa l k).pos ++ gapsL (pa l k).fin t (l.drop (k + 1)) := by
  rw [drop_pa h]; rfl
theorem gaps_end {a t : Int} {l : List Spn} {k : Nat} (h : ¬ k < l.length) : gapsL a t (l.drop k) = gap1 a t := by
  rw [List.drop_of_length_le (by omega)]; rfl
theorem gap1_len (a b : Int) : (gap1 a b).length ≤ 1 := by unfold gap1; split <;> simp
theorem gaps_len (t : Int) (l : List Spn) : ∀ a, (gapsL a t l).length ≤ l.length + 1 := by
  induction l with
  | nil => intro a; exact gap1_len a t
  | cons s r ih =>
    intro a
    have h1 := ih s.fin
    have h2 := gap1_len a s.pos
    simp only [gapsL, List.length_append, List.length_cons]
    omega
/-- What gaps are: each lies between, of whole units, none side by side. -/
def GLay : Int → Int → List Spn → Prop
  | _, _, [] => True
  | f, t, s :: r => (f ≤ s.pos ∧ 4 ≤ s.sz ∧ s.sz % 4 = 0 ∧ s.sz ≤ t - s.pos ∧ s.pos % 4 = 0) ∧ GLay (s.fin + 1) t r
theorem glay_mono {f g t : Int} {l : List Spn} (h : GLay f t l) (hg : g ≤ f) : GLay g t l := by
  cases l with
  | nil => trivial
  | cons s r => exact ⟨⟨by have := h.1.1; omega, h.1.2⟩, h.2⟩
theorem glay_gaps {t : Int} (ht : t % 4 = 0) (l : List Spn) : ∀ {f : Int}, LayP f t l → f % 4 = 0 → GLay f t (gapsL f t l) := by
  induction l with
  | nil =>
    intro f _ hf
    by_cases h : f < t
    · rw [gapsL, gap1_t h]
      exact ⟨⟨Int.le_refl _, by simp only; omega, by simp only; omega, by simp only; omega, hf⟩, trivial⟩
    · rw [gapsL, gap1_f h]; trivial
  | cons s r ih =>
    intro f hl hf
    obtain ⟨⟨a1, a2, a3, a4, a5⟩, h2⟩ := hl
    have h3 := ih h2 (by unfold Spn.fin; omega)
    by_cases h : f < s.pos
    · rw [gapsL, gap1_t h]
      refine ⟨⟨Int.le_refl _, by simp only; omega, by simp only; omega, by simp only; omega, hf⟩, ?_⟩
      exact glay_mono h3 (by unfold Spn.fin; simp only; omega)
    · rw [gapsL, gap1_f h]
      exact glay_mono h3 (by unfold Spn.fin; omega)
theorem glay_at {t : Int} {l : List Spn} : ∀ {f : Int} {i : Nat}, GLay f t l → i < l.length → f ≤ (pa l i).pos ∧ 4 ≤ (pa l i).sz ∧ (pa l i).sz % 4 = 0 ∧ (pa l i).sz ≤ t - (pa l i).pos ∧ (pa l i).pos % 4 = 0 := by
  induction l with
  | nil => intro f i _ h; simp at h
  | cons s r ih =>
    intro f i h hi
    cases i with
    | zero => exact h.1
    | succ i =>
      obtain ⟨b1, b2⟩ := ih h.2 (show i < r.length by simpa using hi)
      obtain ⟨⟨a1, a2, a3, a4⟩, _⟩ := h
      unfold Spn.fin at b1
      rw [pa_cons_succ]
      exact ⟨by omega, b2⟩
theorem glay_next {t : Int} {l : List Spn} : ∀ {f : Int} {i : Nat}, GLay f t l → i + 1 < l.length → (pa l i).fin < (pa l (i + 1)).pos := by
  induction l with
  | nil => intro f i _ h; simp at h
  | cons s r ih =>
    intro f i h hi
    have hi' : i < r.length := by simpa using hi
    rw [pa_cons_succ]
    cases i with
    | zero =>
      rw [pa_cons_zero]
      have := (glay_at h.2 hi').1
      omega
    | succ i => rw [pa_cons_succ]; exact ih h.2 hi'
theorem gaps_from {t : Int} (l : List Spn) : ∀ {f : Int} {s : Spn}, LayP f t l → s ∈ gapsL f t l → f ≤ s.pos ∧ 0 < s.sz ∧ s.fin ≤ t := by
  induction l with
  | nil =>
    intro f s _ hs
    by_cases h : f < t
    · rw [gapsL, gap1_t h, List.mem_singleton] at hs
      subst hs; unfold Spn.fin; simp only; omega
    · rw [gapsL, gap1_f h] at hs; cases hs
  | cons u r ih =>
    intro f s hl hs
    obtain ⟨⟨a1, a2, a3, a4, a5⟩, h2⟩ := hl
    rw [gapsL, List.mem_append] at hs
    rcases hs with hs | hs
    · by_cases h : f < u.pos
      · rw [gap1_t h, List.mem_singleton] at hs
        subst hs; unfold Spn.fin; simp only; omega
      · rw [gap1_f h] at hs; cases hs
    · have := ih h2 hs
      unfold Spn.fin at this ⊢
      omega
theorem RightP.rgp {f t : Int} {l : List Spn} (h : RightP f t l) : ∀ s ∈ gapsL f t l, RgP s := fun s hs => by
  have := gaps_from l h.2 hs
  obtain ⟨⟨a1, a2, a3, _⟩, _⟩ := h
  unfold Spn.fin at this
  exact ⟨by unfold Rg; omega, by unfold Rg; omega⟩
/-- How many hold a word. -/
def cov (l : List Spn) (k : Int) : Nat := l.countP fun s => decide (s.pos ≤ k ∧ k < s.fin)
theorem cov_cons (s : Spn) (l : List Spn) (k : Int) : cov (s :: l) k = cov l k + (if s.pos ≤ k ∧ k < s.fin then 1 else 0) := by
  simp only [cov, List.countP_cons, decide_eq_true_eq]
theorem cov_append (a b : List Spn) (k : Int) : cov (a ++ b) k = cov a k + cov b k := by simp [cov, List.countP_append]
theorem cov_gap1 (a b k : Int) : cov (gap1 a b) k = if a ≤ k ∧ k < b then 1 else 0 := by
  by_cases h : a < b
  · rw [gap1_t h, cov_cons]
    have e : (⟨a, b - a⟩ : Spn).fin = b := by unfold Spn.fin; simp only; omega
    by_cases c : a ≤ k ∧ k < b
    · rw [if_pos c, if_pos (by rw [e]; exact c)]; rfl
    · rw [if_neg c, if_neg (by rw [e]; exact c)]; rfl
  · rw [gap1_f h, if_neg (by omega)]; rfl
theorem cov_all {t : Int} (l : List Spn) : ∀ {f : Int}, LayP f t l → ∀ k, cov l k + cov (gapsL f t l) k = if f ≤ k ∧ k < t then 1 else 0 := by
  induction l with
  | nil => intro f _ k; rw [gapsL, cov_gap1]; simp [cov]
  | cons s r ih =>
    intro f h k
    obtain ⟨⟨a1, a2, a3, a4, a5⟩, h2⟩ := h
    have h3 := ih h2 k
    rw [gapsL, cov_append, cov_gap1, cov_cons]
    unfold Spn.fin at h3 ⊢
    by_cases c1 : f ≤ k ∧ k < t
    · rw [if_pos c1]
      by_cases c2 : k < s.pos
      · rw [if_neg (by omega)] at h3 ⊢
        rw [if_pos (by omega)]; omega
      · by_cases c3 : k < s.pos + s.sz
        · rw [if_neg (by omega)] at h3
          rw [if_pos (by omega), if_neg (by omega)]; omega
        · rw [if_pos (by omega)] at h3
          rw [if_neg (by omega), if_neg (by omega)]; omega
    · rw [if_neg c1]
      rw [if_neg (by omega)] at h3
      rw [if_neg (by omega), if_neg (by omega)]; omega
/-- What is free behind a block. -/
def bhN (l : List Spn) (t : Int) (k : Nat) : Int := (if k + 1 < l.length then (pa l (k + 1)).pos else t) - (pa l k).fin
theorem bh_more {l : List Spn} {t : Int} {k : Nat} (h : k + 1 < l.length) : bhN l t k = (pa l (k + 1)).pos - (pa l k).fin := by unfold bhN; rw [if_pos h]
theorem bh_last {l : List Spn} {t : Int} {k : Nat} (h : ¬ k + 1 < l.length) : bhN l t k = t - (pa l k).fin := by unfold bhN; rw [if_neg h]
def BhOk (f t : Int) (l : List Spn) (k : Int) : Prop := RightP f t l ∧ 0 ≤ k ∧ k < l.length
instance (f t : Int) (l : List Spn) (k : Int) : Decidable (BhOk f t l k) := by unfold BhOk; infer_instance
def bhV (f t : Int) (l : List Spn) (k : Int) : Int := if BhOk f t l k then bhN l t k.toNat else 0
def bhE (f t : Int) (l : List Spn) (k : Int) : Int := if BhOk f t l k then 0 else 1
theorem bh_t {f t : Int} {l : List Spn} {k : Int} (h : BhOk f t l k) : bhV f t l k = bhN l t k.toNat ∧ bhE f t l k = 0 := ⟨if_pos h, if_pos h⟩
theorem bh_f {f t : Int} {l : List Spn} {k : Int} (h : ¬ BhOk f t l k) : bhV f t l k = 0 ∧ bhE f t l k = 1 := ⟨if_neg h, if_neg h⟩
def gpE (f t : Int) (l : List Spn) : Int := if RightP f t l then 0 else 1
def gpL (f t : Int) (l : List Spn) : List Spn := if RightP f t l then gapsL f t l else []
theorem gp_t {f t : Int} {l : List Spn} (h : RightP f t l) : gpL f t l = gapsL f t l ∧ gpE f t l = 0 := ⟨if_pos h, if_pos h⟩
theorem gp_f {f t : Int} {l : List Spn} (h : ¬ RightP f t l) : gpL f t l = [] ∧ gpE f t l = 1 := ⟨if_neg h, if_neg h⟩
/-- The size of the first one of g that begins at e. -/
def fbN : List Spn → Int → Int
  | [], _ => 0
  | s :: r, e => if s.pos = e then s.sz else fbN r e
theorem fb_none {e : Int} : ∀ (g : List Spn), (∀ s ∈ g, s.pos ≠ e) → fbN g e = 0 := by
  intro g
  induction g with
  | nil => intro _; rfl
  | cons s r ih =>
    intro h
    rw [fbN, if_neg (h s (by simp))]
    exact ih fun x hx => h x (by simp [hx])
theorem fb_gap1 {a b e : Int} (g : List Spn) (h : a ≠ e) : fbN (gap1 a b ++ g) e = fbN g e := by
  unfold gap1
  split
  · show (if a = e then _ else _) = _
    rw [if_neg h]; rfl
  · rfl
theorem fb_behind {t : Int} (l : List Spn) : ∀ {f : Int} {k : Nat}, f ≤ t → LayP f t l → k < l.length → fbN (gapsL f t l) (pa l k).fin = bhN l t k := by
  induction l with
  | nil => intro f k _ _ h; simp at h
  | cons s r ih =>
    intro f k hft hl hk
    obtain ⟨⟨a1, a2, a3, a4, a5⟩, h2⟩ := hl
    have hst : s.fin ≤ t := by unfold Spn.fin; omega
    cases k with
    | zero =>
      rw [gapsL, pa_cons_zero, fb_gap1 _ (by unfold Spn.fin; omega)]
      cases r with
      | nil =>
        rw [bh_last (by simp), pa_cons_zero, gapsL]
        by_cases h : s.fin < t
        · rw [gap1_t h, fbN, if_pos rfl]
        · rw [gap1_f h, fbN]; omega
      | cons u q =>
        rw [bh_more (by simp), pa_cons_zero, pa_cons_succ, pa_cons_zero, gapsL]
        obtain ⟨⟨b1, b2, b3, b4, b5⟩, h3⟩ := h2
        by_cases h : s.fin < u.pos
        · rw [gap1_t h, List.singleton_append, fbN, if_pos rfl]
        · rw [gap1_f h, List.nil_append, fb_none _ (fun x hx => by
            have := (gaps_from q h3 hx).1
            unfold Spn.fin at this h b1 ⊢
            omega)]
          omega
    | succ k =>
      have hk' : k < r.length := by simpa using hk
      have hf := lay_fit h2 hk'
      have e1 : bhN (s :: r) t (k + 1) = bhN r t k := by simp [bhN, pa_cons_succ]
      rw [gapsL, pa_cons_succ, fb_gap1 _ (by have := hf.1; have := hf.2.2.1; unfold Spn.fin at *; omega), e1]
      exact ih hst h2 hk'

/-- Is a better than b? -/
def BtrP (a b : Spn) : Prop := a.sz < b.sz ∨ a.sz = b.sz ∧ a.pos < b.pos
instance (a b : Spn) : Decidable (BtrP a b) := by unfold BtrP; infer_instance
def btrB (a b : Spn) : Bool := decide (BtrP a b)
theorem btrB_t {a b : Spn} (h : BtrP a b) : btrB a b = true := decide_eq_true h
theorem btrB_f {a b : Spn} (h : ¬ BtrP a b) : btrB a b = false := decide_eq_false h
/-- The best of those below k; none yet. -/
def bsK (z : Int) (l : List Spn) : Nat → Option Spn
  | 0 => none
  | k + 1 =>
    if z ≤ (pa l k).sz then
      match bsK z l k with
      | none => some (pa l k)
      | some b => if BtrP (pa l k) b then some (pa l k) else some b
    else bsK z l k
theorem bs_small {z : Int} {l : List Spn} {k : Nat} (h : ¬ z ≤ (pa l k).sz) : bsK z l (k + 1) = bsK z l k := if_neg h
theorem bs_first {z : Int} {l : List Spn} {k : Nat} (h : z ≤ (pa l k).sz) (h2 : bsK z l k = none) : bsK z l (k + 1) = some (pa l k) := by rw [bsK, if_pos h, h2]
theorem bs_better {z : Int} {l : List Spn} {k : Nat} {b : Spn} (h : z ≤ (pa l k).sz) (h2 : bsK z l k = some b) (h3 : BtrP (pa l k) b) : bsK z l (k + 1) = some (pa l k) := by rw [bsK, if_pos h, h2]; exact if_pos h3
theorem bs_not {z : Int} {l : List Spn} {k : Nat} {b : Spn} (h : z ≤ (pa l k).sz) (h2 : bsK z l k = some b) (h3 : ¬ BtrP (pa l k) b) : bsK z l (k + 1) = some b := by rw [bsK, if_pos h, h2]; exact if_neg h3
def bsO (l : List Spn) (z : Int) : Option Spn := bsK z l l.length
def bsN (l : List Spn) (z : Int) : Spn := (bsO l z).getD Spn.z
def bsB (l : List Spn) (z : Int) : Bool := (bsO l z).isSome
theorem bs_none {z : Int} {l : List Spn} : ∀ {k : Nat}, bsK z l k = none → ∀ i, i < k → (pa l i).sz < z := by
  intro k
  induction k with
  | zero => intro _ i hi; omega
  | succ k ih =>
    intro h i hi
    by_cases hz : z ≤ (pa l k).sz
    · cases e : bsK z l k with
      | none => rw [bs_first hz e] at h; cases h
      | some b =>
        by_cases hb : BtrP (pa l k) b
        · rw [bs_better hz e hb] at h; cases h
        · rw [bs_not hz e hb] at h; cases h
    · rw [bs_small hz] at h
      by_cases e : i = k
      · subst e; omega
      · exact ih h i (by omega)
theorem bs_some {z : Int} {l : List Spn} : ∀ {k : Nat} {b : Spn}, bsK z l k = some b → (∃ i, i < k ∧ pa l i = b) ∧ z ≤ b.sz ∧ ∀ i, i < k → z ≤ (pa l i).sz → ¬ BtrP (pa l i) b := by
  intro k
  induction k with
  | zero => intro b h; cases h
  | succ k ih =>
    intro b h
    by_cases hz : z ≤ (pa l k).sz
    · cases e : bsK z l k with
      | none =>
        rw [bs_first hz e] at h
        simp only [Option.some.injEq] at h
        have hn := bs_none e
        refine ⟨⟨k, by omega, h⟩, by rw [← h]; exact hz, fun i hi h1 => ?_⟩
        by_cases e2 : i = k
        · rw [e2, h]; unfold BtrP; omega
        · have := hn i (by omega); omega
      | some c =>
        obtain ⟨h1, h2, h3⟩ := ih e
        by_cases hb : BtrP (pa l k) c
        · rw [bs_better hz e hb] at h
          simp only [Option.some.injEq] at h
          refine ⟨⟨k, by omega, h⟩, by rw [← h]; exact hz, fun i hi q1 => ?_⟩
          by_cases e2 : i = k
          · rw [e2, h]; unfold BtrP; omega
          · have q2 := h3 i (by omega) q1
            rw [h] at hb
            unfold BtrP at hb q2 ⊢; omega
        · rw [bs_not hz e hb] at h
          simp only [Option.some.injEq] at h
          subst h
          obtain ⟨i, hi, e1⟩ := h1
          refine ⟨⟨i, by omega, e1⟩, h2, fun i hi q1 => ?_⟩
          by_cases e2 : i = k
          · rw [e2]; exact hb
          · exact h3 i (by omega) q1
    · rw [bs_small hz] at h
      obtain ⟨⟨i, hi, e1⟩, h2, h3⟩ := ih h
      refine ⟨⟨i, by omega, e1⟩, h2, fun i hi q1 => ?_⟩
      by_cases e2 : i = k
      · subst e2; omega
      · exact h3 i (by omega) q1
/-- A block laid at the beginning of a gap. -/
theorem lays_in {t q : Int} {s : Spn} (hq : 4 ≤ q) (hq4 : q % 4 = 0) (hqs : q ≤ s.sz) (l : List Spn) : ∀ {f : Int} {k : Nat}, f % 4 = 0 → LayP f t l → s ∈ gapsL f t l → k ≤ l.length → (∀ i, i < k → (pa l i).pos < s.pos) → (k < l.length → ¬ (pa l k).pos < s.pos) →
    LayP f t (l.take k ++ ⟨s.pos, q⟩ :: l.drop k) ∧ bhN (l.take k ++ ⟨s.pos, q⟩ :: l.drop k) t k = s.sz - q := by
  induction l with
  | nil =>
    intro f k hf _ hs hk _ _
    obtain rfl : k = 0 := by simpa using hk
    by_cases h : f < t
    · rw [gapsL, gap1_t h, List.mem_singleton] at hs
      subst hs
      simp only at hqs ⊢
      refine ⟨⟨⟨Int.le_refl _, hf, hq, hqs, hq4⟩, trivial⟩, ?_⟩
      rw [bh_last (by simp)]
      simp only [List.take_nil, List.nil_append, List.drop_nil, pa_cons_zero, Spn.fin]
      omega
    · rw [gapsL, gap1_f h] at hs; cases hs
  | cons u r ih =>
    intro f k hf hl hs hk hb ha
    obtain ⟨⟨a1, a2, a3, a4, a5⟩, h2⟩ := hl
    rw [gapsL, List.mem_append] at hs
    rcases hs with hs | hs
    · by_cases h : f < u.pos
      · rw [gap1_t h, List.mem_singleton] at hs
        subst hs
        simp only at hqs hb ha ⊢
        have hk0 : k = 0 := by
          cases k with
          | zero => rfl
          | succ k => have := hb 0 (by omega); rw [pa_cons_zero] at this; omega
        subst hk0
        simp only [List.take_zero, List.nil_append, List.drop_zero]
        refine ⟨⟨⟨Int.le_refl _, hf, hq, by simp only; omega, hq4⟩, ⟨by simp only [Spn.fin]; omega, a2, a3, a4, a5⟩, h2⟩, ?_⟩
        rw [bh_more (by simp)]
        simp only [pa_cons_succ, pa_cons_zero, Spn.fin]
        omega
      · rw [gap1_f h] at hs; cases hs
    · have hge := (gaps_from r h2 hs).1
      cases k with
      | zero => have := ha (by simp); rw [pa_cons_zero] at this; unfold Spn.fin at hge; omega
      | succ k =>
        obtain ⟨i1, i2⟩ := ih (f := u.fin) (k := k) (by unfold Spn.fin; omega) h2 hs (by simpa using hk) (fun i hi => by have := hb (i + 1) (by omega); rwa [pa_cons_succ] at this) (fun hi => by have := ha (by simpa using hi); rwa [pa_cons_succ] at this)
        simp only [List.take_succ_cons, List.drop_succ_cons, List.cons_append]
        refine ⟨⟨⟨a1, a2, a3, a4, a5⟩, i1⟩, ?_⟩
        rw [← i2]
        simp [bhN, pa_cons_succ]
end Go.Proofs.YtfnnelkipdajiaaDoor
