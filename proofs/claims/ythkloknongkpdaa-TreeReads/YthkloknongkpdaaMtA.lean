/- GapM · TagM · ClsM · PagM · RunM: these texts, one behind another. -/
import Derived.Test.YthkloknongkpdaaRg
import Derived.Test.YthkloknongkpdaaOff
/- Spans in plain words: the need of bytes, which blocks are right, what is free between them and behind one, which span fits best; what follows. -/
namespace Go.Proofs.Ythkloknongkpdaa
set_option maxRecDepth 100000
open Go.RowKit
set_option linter.unusedVariables false
set_option linter.unusedSimpArgs false

structure Spn where
  pos : Int
  sz : Int
def Spn.z : Spn := ⟨0, 0⟩
instance : Inhabited Spn := ⟨Spn.z⟩
theorem Spn.ext' {a b : Spn} (h0 : a.pos = b.pos) (h1 : a.sz = b.sz) : a = b := by
  cases a; cases b; simp_all
instance : DecidableEq Spn := fun a b =>
  if h : a.pos = b.pos ∧ a.sz = b.sz then .isTrue (Spn.ext' h.1 h.2)
  else .isFalse (fun e => h (by subst e; exact ⟨rfl, rfl⟩))
/-- Its numbers are numbers that an int64 bears. -/
structure RgP (s : Spn) : Prop where
  p : Rg s.pos
  z : Rg s.sz
def Spn.fin (s : Spn) : Int := s.pos + s.sz
def pa (l : List Spn) (i : Nat) : Spn := l.getD i Spn.z
theorem pa_set_same (l : List Spn) (k : Nat) (s : Spn) (h : k < l.length) : pa (l.set k s) k = s := by simp [pa, List.getD, h]
theorem pa_set_other (l : List Spn) (k i : Nat) (s : Spn) (h : k ≠ i) : pa (l.set k s) i = pa l i := by simp [pa, List.getD, List.getElem?_set_ne h]
theorem pa_mem {l : List Spn} {i : Nat} (h : i < l.length) : pa l i ∈ l := by
  simp only [pa, List.getD, List.getElem?_eq_getElem h, Option.getD_some]
  exact List.getElem_mem h
theorem mem_pa {l : List Spn} {s : Spn} (h : s ∈ l) : ∃ i, i < l.length ∧ pa l i = s := by
  obtain ⟨i, hi, e⟩ := List.getElem_of_mem h
  exact ⟨i, hi, by simp [pa, List.getD, List.getElem?_eq_getElem hi, e]⟩
theorem ext_pa {a b : List Spn} (h : a.length = b.length) (k : ∀ i, i < a.length → pa a i = pa b i) : a = b := by
  apply List.ext_getElem?
  intro i
  by_cases hi : i < a.length
  · have hb : i < b.length := by omega
    have := k i hi
    simp only [pa, List.getD, List.getElem?_eq_getElem hi, List.getElem?_eq_getElem hb, Option.getD_some] at this
    rw [List.getElem?_eq_getElem hi, List.getElem?_eq_getElem hb, this]
  · rw [List.getElem?_eq_none (by omega), List.getElem?_eq_none (by omega)]
theorem drop_pa {l : List Spn} {k : Nat} (h : k < l.length) : l.drop k = pa l k :: l.drop (k + 1) := by
  rw [List.drop_eq_getElem_cons h]
  simp [pa, List.getD, List.getElem?_eq_getElem h]
theorem take_pa {l : List Spn} {k : Nat} (h : k < l.length) : l.take (k + 1) = l.take k ++ [pa l k] := by
  rw [List.take_add_one]
  simp [pa, List.getD, List.getElem?_eq_getElem h]
theorem pa_cons_zero (s : Spn) (l : List Spn) : pa (s :: l) 0 = s := rfl
theorem pa_cons_succ (s : Spn) (l : List Spn) (k : Nat) : pa (s :: l) (k + 1) = pa l k := rfl

/-- The need of n bytes. -/
def ndN (n : Int) : Int := if 1 ≤ n ∧ n ≤ 2048 then (2 + (n + 7) / 8 + 3) / 4 * 4 else 0
def ndE (n : Int) : Int := if 1 ≤ n ∧ n ≤ 2048 then 0 else 1
theorem nd_t {n : Int} (h : 1 ≤ n ∧ n ≤ 2048) : ndN n = (2 + (n + 7) / 8 + 3) / 4 * 4 ∧ ndE n = 0 := ⟨if_pos h, if_pos h⟩
theorem nd_f {n : Int} (h : ¬ (1 ≤ n ∧ n ≤ 2048)) : ndN n = 0 ∧ ndE n = 1 := ⟨if_neg h, if_neg h⟩

/-- A block may lie between f and t. -/
def FitP (f t : Int) (s : Spn) : Prop := f ≤ s.pos ∧ s.pos % 4 = 0 ∧ 4 ≤ s.sz ∧ s.sz ≤ t - s.pos ∧ s.sz % 4 = 0
instance (f t : Int) (s : Spn) : Decidable (FitP f t s) := by unfold FitP; infer_instance
def fitPB (f t : Int) (s : Spn) : Bool := decide (FitP f t s)
theorem fitPB_t {f t : Int} {s : Spn} (h : FitP f t s) : fitPB f t s = true := decide_eq_true h
theorem fitPB_f {f t : Int} {s : Spn} (h : ¬ FitP f t s) : fitPB f t s = false := decide_eq_false h
theorem fitPB_iff {f t : Int} {s : Spn} : fitPB f t s = true ↔ FitP f t s := decide_eq_true_iff
/-- Blocks lie one behind another between f and t. -/
def LayP : Int → Int → List Spn → Prop
  | _, _, [] => True
  | f, t, s :: r => FitP f t s ∧ LayP s.fin t r
def layPD : (f t : Int) → (l : List Spn) → Decidable (LayP f t l)
  | _, _, [] => .isTrue trivial
  | f, t, s :: r =>
    match (inferInstance : Decidable (FitP f t s)), layPD s.fin t r with
    | .isTrue a, .isTrue b => .isTrue ⟨a, b⟩
    | .isFalse a, _ => .isFalse (fun h => a h.1)
    | _, .isFalse b => .isFalse (fun h => b h.2)
instance (f t : Int) (l : List Spn) : Decidable (LayP f t l) := layPD f t l
def EndP (f t : Int) : Prop := 0 ≤ f ∧ f ≤ t ∧ t ≤ 2048 ∧ f % 4 = 0 ∧ t % 4 = 0
instance (f t : Int) : Decidable (EndP f t) := by unfold EndP; infer_instance
/-- Used blocks are right. -/
def RightP (f t : Int) (l : List Spn) : Prop := EndP f t ∧ LayP f t l
instance (f t : Int) (l : List Spn) : Decidable (RightP f t l) := by unfold RightP; infer_instance
def rightPB (f t : Int) (l : List Spn) : Bool := decide (RightP f t l)
theorem rightPB_t {f t : Int} {l : List Spn} (h : RightP f t l) : rightPB f t l = true := decide_eq_true h
theorem rightPB_f {f t : Int} {l : List Spn} (h : ¬ RightP f t l) : rightPB f t l = false := decide_eq_false h
theorem lay_drop {f t : Int} {l : List Spn} {k : Nat} (h : k < l.length) : LayP f t (l.drop k) ↔ FitP f t (pa l k) ∧ LayP (pa l k).fin t (l.drop (k + 1)) := by
  rw [drop_pa h]; exact Iff.rfl
theorem lay_end {f t : Int} {l : List Spn} {k : Nat} (h : ¬ k < l.length) : LayP f t (l.drop k) := by
  rw [List.drop_of_length_le (by omega)]; trivial
theorem lay_mono {f g t : Int} {l : List Spn} (h : LayP f t l) (hg : g ≤ f) : LayP g t l := by
  cases l with
  | nil => trivial
  | cons s r => exact ⟨⟨by have := h.1.1; omega, h.1.2⟩, h.2⟩
theorem lay_fit {t : Int} {l : List Spn} : ∀ {f : Int} {i : Nat}, LayP f t l → i < l.length → FitP f t (pa l i) := by
  induction l with
  | nil => intro f i _ h; simp at h
  | cons s r ih =>
    intro f i h hi
    cases i with
    | zero => exact h.1
    | succ i =>
      have := ih h.2 (show i < r.length by simpa using hi)
      obtain ⟨⟨a1, a2, a3, a4, a5⟩, _⟩ := h
      obtain ⟨b1, b2, b3, b4, b5⟩ := this
      rw [pa_cons_succ]
      unfold Spn.fin at b1
      exact ⟨by omega, b2, b3, b4, b5⟩
theorem lay_order {t : Int} {l : List Spn} : ∀ {f : Int} {i j : Nat}, LayP f t l → i < j → j < l.length → (pa l i).fin ≤ (pa l j).pos := by
  induction l with
  | nil => intro f i j _ _ h; simp at h
  | cons s r ih =>
    intro f i j h hij hj
    cases j with
    | zero => omega
    | succ j =>
      have hj' : j < r.length := by simpa using hj
      cases i with
      | zero => rw [pa_cons_zero, pa_cons_succ]; exact (lay_fit h.2 hj').1
      | succ i => rw [pa_cons_succ, pa_cons_succ]; exact ih h.2 (by omega) hj'
theorem lay_ne {f t : Int} {l : List Spn} {i j : Nat} (h : LayP f t l) (hi : i < l.length) (hj : j < l.length) (hne : i ≠ j) : pa l i ≠ pa l j := by
  intro e
  rcases Nat.lt_or_gt_of_ne hne with h1 | h1
  · have a := lay_order h h1 hj
    have b := (lay_fit h hi).2.2.1
    rw [← e] at a
    unfold Spn.fin at a
    omega
  · have a := lay_order h h1 hi
    have b := (lay_fit h hj).2.2.1
    rw [e] at a
    unfold Spn.fin at a
    omega
theorem lay_len {t : Int} {l : List Spn} : ∀ {f : Int}, LayP f t l → f ≤ t → 4 * (l.length : Int) ≤ t - f := by
  induction l with
  | nil => intro f _ h; simp; omega
  | cons s r ih =>
    intro f h hf
    obtain ⟨⟨a1, a2, a3, a4, a5⟩, h2⟩ := h
    have := ih h2 (by unfold Spn.fin; omega)
    unfold Spn.fin at this
    simp only [List.length_cons]
    omega
theorem RightP.len {f t : Int} {l : List Spn} (h : RightP f t l) : l.length ≤ 512 := by
  obtain ⟨⟨a1, a2, a3, _⟩, h2⟩ := h
  have := lay_len h2 a2
  omega
theorem RightP.fit {f t : Int} {l : List Spn} (h : RightP f t l) {i : Nat} (hi : i < l.length) : FitP f t (pa l i) := lay_fit h.2 hi

/-- What is free between a and b. -/
def gap1 (a b : Int) : List Spn := if a < b then [⟨a, b - a⟩] else []
theorem gap1_t {a b : Int} (h : a < b) : gap1 a b = [⟨a, b - a⟩] := if_pos h
theorem gap1_f {a b : Int} (h : ¬ a < b) : gap1 a b = [] := if_neg h
/-- The gaps from a on. -/
def gapsL : Int → Int → List Spn → List Spn
  | a, t, [] => gap1 a t
  | a, t, s :: r => gap1 a s.pos ++ gapsL s.fin t r
theorem gaps_drop {a t : Int} {l : List Spn} {k : Nat} (h : k < l.length) : gapsL a t (l.drop k) = gap1 a (pa l k).pos ++ gapsL (pa l k).fin t (l.drop (k + 1)) := by
  rw [drop_pa h]; rfl
theorem gaps_end {a t : Int} {l : List Spn} {k : Nat} (h : ¬ k < l.length) : gapsL a t (l.drop k) = gap1 a t := by
  rw [List.drop_of_length_le (by omega)]; rfl
theorem gap1_len (a b : Int) : (gap1 a b).length ≤ 1 := by unfold gap1; split <;> simp
theorem gaps_len (t : Int) (l : List Spn) : ∀ a, (gapsL a t l).length ≤ l.length + 1 := by
  induction l with
  | nil => intro a; exact gap1_len a t
  | cons s r ih =>
    intro a
    have h1 := ih s.fin
    have h2 := gap1_len a s.pos
    simp only [gapsL, List.length_append, List.length_cons]
    omega
/-- What gaps are: each lies between, of whole units, none side by side. -/
def GLay : Int → Int → List Spn → Prop
  | _, _, [] => True
  | f, t, s :: r => (f ≤ s.pos ∧ 4 ≤ s.sz ∧ s.sz % 4 = 0 ∧ s.sz ≤ t - s.pos ∧ s.pos % 4 = 0) ∧ GLay (s.fin + 1) t r
theorem glay_mono {f g t : Int} {l : List Spn} (h : GLay f t l) (hg : g ≤ f) : GLay g t l := by
  cases l with
  | nil => trivial
  | cons s r => exact ⟨⟨by have := h.1.1; omega, h.1.2⟩, h.2⟩
theorem glay_gaps {t : Int} (ht : t % 4 = 0) (l : List Spn) : ∀ {f : Int}, LayP f t l → f % 4 = 0 → GLay f t (gapsL f t l) := by
  induction l with
  | nil =>
    intro f _ hf
    by_cases h : f < t
    · rw [gapsL, gap1_t h]
      exact ⟨⟨Int.le_refl _, by simp only; omega, by simp only; omega, by simp only; omega, hf⟩, trivial⟩
    · rw [gapsL, gap1_f h]; trivial
  | cons s r ih =>
    intro f hl hf
    obtain ⟨⟨a1, a2, a3, a4, a5⟩, h2⟩ := hl
    have h3 := ih h2 (by unfold Spn.fin; omega)
    by_cases h : f < s.pos
    · rw [gapsL, gap1_t h]
      refine ⟨⟨Int.le_refl _, by simp only; omega, by simp only; omega, by simp only; omega, hf⟩, ?_⟩
      exact glay_mono h3 (by unfold Spn.fin; simp only; omega)
    · rw [gapsL, gap1_f h]
      exact glay_mono h3 (by unfold Spn.fin; omega)
theorem glay_at {t : Int} {l : List Spn} : ∀ {f : Int} {i : Nat}, GLay f t l → i < l.length → f ≤ (pa l i).pos ∧ 4 ≤ (pa l i).sz ∧ (pa l i).sz % 4 = 0 ∧ (pa l i).sz ≤ t - (pa l i).pos ∧ (pa l i).pos % 4 = 0 := by
  induction l with
  | nil => intro f i _ h; simp at h
  | cons s r ih =>
    intro f i h hi
    cases i with
    | zero => exact h.1
    | succ i =>
      obtain ⟨b1, b2⟩ := ih h.2 (show i < r.length by simpa using hi)
      obtain ⟨⟨a1, a2, a3, a4⟩, _⟩ := h
      unfold Spn.fin at b1
      rw [pa_cons_succ]
      exact ⟨by omega, b2⟩
theorem glay_next {t : Int} {l : List Spn} : ∀ {f : Int} {i : Nat}, GLay f t l → i + 1 < l.length → (pa l i).fin < (pa l (i + 1)).pos := by
  induction l with
  | nil => intro f i _ h; simp at h
  | cons s r ih =>
    intro f i h hi
    have hi' : i < r.length := by simpa using hi
    rw [pa_cons_succ]
    cases i with
    | zero =>
      rw [pa_cons_zero]
      have := (glay_at h.2 hi').1
      omega
    | succ i => rw [pa_cons_succ]; exact ih h.2 hi'
theorem gaps_from {t : Int} (l : List Spn) : ∀ {f : Int} {s : Spn}, LayP f t l → s ∈ gapsL f t l → f ≤ s.pos ∧ 0 < s.sz ∧ s.fin ≤ t := by
  induction l with
  | nil =>
    intro f s _ hs
    by_cases h : f < t
    · rw [gapsL, gap1_t h, List.mem_singleton] at hs
      subst hs; unfold Spn.fin; simp only; omega
    · rw [gapsL, gap1_f h] at hs; cases hs
  | cons u r ih =>
    intro f s hl hs
    obtain ⟨⟨a1, a2, a3, a4, a5⟩, h2⟩ := hl
    rw [gapsL, List.mem_append] at hs
    rcases hs with hs | hs
    · by_cases h : f < u.pos
      · rw [gap1_t h, List.mem_singleton] at hs
        subst hs; unfold Spn.fin; simp only; omega
      · rw [gap1_f h] at hs; cases hs
    · have := ih h2 hs
      unfold Spn.fin at this ⊢
      omega
theorem RightP.rgp {f t : Int} {l : List Spn} (h : RightP f t l) : ∀ s ∈ gapsL f t l, RgP s := fun s hs => by
  have := gaps_from l h.2 hs
  obtain ⟨⟨a1, a2, a3, _⟩, _⟩ := h
  unfold Spn.fin at this
  exact ⟨by unfold Rg; omega, by unfold Rg; omega⟩
/-- How many hold a word. -/
def cov (l : List Spn) (k : Int) : Nat := l.countP fun s => decide (s.pos ≤ k ∧ k < s.fin)
theorem cov_cons (s : Spn) (l : List Spn) (k : Int) : cov (s :: l) k = cov l k + (if s.pos ≤ k ∧ k < s.fin then 1 else 0) := by
  simp only [cov, List.countP_cons, decide_eq_true_eq]
theorem cov_append (a b : List Spn) (k : Int) : cov (a ++ b) k = cov a k + cov b k := by simp [cov, List.countP_append]
theorem cov_gap1 (a b k : Int) : cov (gap1 a b) k = if a ≤ k ∧ k < b then 1 else 0 := by
  by_cases h : a < b
  · rw [gap1_t h, cov_cons]
    have e : (⟨a, b - a⟩ : Spn).fin = b := by unfold Spn.fin; simp only; omega
    by_cases c : a ≤ k ∧ k < b
    · rw [if_pos c, if_pos (by rw [e]; exact c)]; rfl
    · rw [if_neg c, if_neg (by rw [e]; exact c)]; rfl
  · rw [gap1_f h, if_neg (by omega)]; rfl
theorem cov_all {t : Int} (l : List Spn) : ∀ {f : Int}, LayP f t l → ∀ k, cov l k + cov (gapsL f t l) k = if f ≤ k ∧ k < t then 1 else 0 := by
  induction l with
  | nil => intro f _ k; rw [gapsL, cov_gap1]; simp [cov]
  | cons s r ih =>
    intro f h k
    obtain ⟨⟨a1, a2, a3, a4, a5⟩, h2⟩ := h
    have h3 := ih h2 k
    rw [gapsL, cov_append, cov_gap1, cov_cons]
    unfold Spn.fin at h3 ⊢
    by_cases c1 : f ≤ k ∧ k < t
    · rw [if_pos c1]
      by_cases c2 : k < s.pos
      · rw [if_neg (by omega)] at h3 ⊢
        rw [if_pos (by omega)]; omega
      · by_cases c3 : k < s.pos + s.sz
        · rw [if_neg (by omega)] at h3
          rw [if_pos (by omega), if_neg (by omega)]; omega
        · rw [if_pos (by omega)] at h3
          rw [if_neg (by omega), if_neg (by omega)]; omega
    · rw [if_neg c1]
      rw [if_neg (by omega)] at h3
      rw [if_neg (by omega), if_neg (by omega)]; omega
/-- What is free behind a block. -/
def bhN (l : List Spn) (t : Int) (k : Nat) : Int := (if k + 1 < l.length then (pa l (k + 1)).pos else t) - (pa l k).fin
theorem bh_more {l : List Spn} {t : Int} {k : Nat} (h : k + 1 < l.length) : bhN l t k = (pa l (k + 1)).pos - (pa l k).fin := by unfold bhN; rw [if_pos h]
theorem bh_last {l : List Spn} {t : Int} {k : Nat} (h : ¬ k + 1 < l.length) : bhN l t k = t - (pa l k).fin := by unfold bhN; rw [if_neg h]
def BhOk (f t : Int) (l : List Spn) (k : Int) : Prop := RightP f t l ∧ 0 ≤ k ∧ k < l.length
instance (f t : Int) (l : List Spn) (k : Int) : Decidable (BhOk f t l k) := by unfold BhOk; infer_instance
def bhV (f t : Int) (l : List Spn) (k : Int) : Int := if BhOk f t l k then bhN l t k.toNat else 0
def bhE (f t : Int) (l : List Spn) (k : Int) : Int := if BhOk f t l k then 0 else 1
theorem bh_t {f t : Int} {l : List Spn} {k : Int} (h : BhOk f t l k) : bhV f t l k = bhN l t k.toNat ∧ bhE f t l k = 0 := ⟨if_pos h, if_pos h⟩
theorem bh_f {f t : Int} {l : List Spn} {k : Int} (h : ¬ BhOk f t l k) : bhV f t l k = 0 ∧ bhE f t l k = 1 := ⟨if_neg h, if_neg h⟩
def gpE (f t : Int) (l : List Spn) : Int := if RightP f t l then 0 else 1
def gpL (f t : Int) (l : List Spn) : List Spn := if RightP f t l then gapsL f t l else []
theorem gp_t {f t : Int} {l : List Spn} (h : RightP f t l) : gpL f t l = gapsL f t l ∧ gpE f t l = 0 := ⟨if_pos h, if_pos h⟩
theorem gp_f {f t : Int} {l : List Spn} (h : ¬ RightP f t l) : gpL f t l = [] ∧ gpE f t l = 1 := ⟨if_neg h, if_neg h⟩
/-- The size of the first one of g that begins at e. -/
def fbN : List Spn → Int → Int
  | [], _ => 0
  | s :: r, e => if s.pos = e then s.sz else fbN r e
theorem fb_none {e : Int} : ∀ (g : List Spn), (∀ s ∈ g, s.pos ≠ e) → fbN g e = 0 := by
  intro g
  induction g with
  | nil => intro _; rfl
  | cons s r ih =>
    intro h
    rw [fbN, if_neg (h s (by simp))]
    exact ih fun x hx => h x (by simp [hx])
theorem fb_gap1 {a b e : Int} (g : List Spn) (h : a ≠ e) : fbN (gap1 a b ++ g) e = fbN g e := by
  unfold gap1
  split
  · show (if a = e then _ else _) = _
    rw [if_neg h]; rfl
  · rfl
theorem fb_behind {t : Int} (l : List Spn) : ∀ {f : Int} {k : Nat}, f ≤ t → LayP f t l → k < l.length → fbN (gapsL f t l) (pa l k).fin = bhN l t k := by
  induction l with
  | nil => intro f k _ _ h; simp at h
  | cons s r ih =>
    intro f k hft hl hk
    obtain ⟨⟨a1, a2, a3, a4, a5⟩, h2⟩ := hl
    have hst : s.fin ≤ t := by unfold Spn.fin; omega
    cases k with
    | zero =>
      rw [gapsL, pa_cons_zero, fb_gap1 _ (by unfold Spn.fin; omega)]
      cases r with
      | nil =>
        rw [bh_last (by simp), pa_cons_zero, gapsL]
        by_cases h : s.fin < t
        · rw [gap1_t h, fbN, if_pos rfl]
        · rw [gap1_f h, fbN]; omega
      | cons u q =>
        rw [bh_more (by simp), pa_cons_zero, pa_cons_succ, pa_cons_zero, gapsL]
        obtain ⟨⟨b1, b2, b3, b4, b5⟩, h3⟩ := h2
        by_cases h : s.fin < u.pos
        · rw [gap1_t h, List.singleton_append, fbN, if_pos rfl]
        · rw [gap1_f h, List.nil_append, fb_none _ (fun x hx => by
            have := (gaps_from q h3 hx).1
            unfold Spn.fin at this h b1 ⊢
            omega)]
          omega
    | succ k =>
      have hk' : k < r.length := by simpa using hk
      have hf := lay_fit h2 hk'
      have e1 : bhN (s :: r) t (k + 1) = bhN r t k := by simp [bhN, pa_cons_succ]
      rw [gapsL, pa_cons_succ, fb_gap1 _ (by have := hf.1; have := hf.2.2.1; unfold Spn.fin at *; omega), e1]
      exact ih hst h2 hk'

/-- Is a better than b? -/
def BtrP (a b : Spn) : Prop := a.sz < b.sz ∨ a.sz = b.sz ∧ a.pos < b.pos
instance (a b : Spn) : Decidable (BtrP a b) := by unfold BtrP; infer_instance
def btrB (a b : Spn) : Bool := decide (BtrP a b)
theorem btrB_t {a b : Spn} (h : BtrP a b) : btrB a b = true := decide_eq_true h
theorem btrB_f {a b : Spn} (h : ¬ BtrP a b) : btrB a b = false := decide_eq_false h
/-- The best of those below k; none yet. -/
def bsK (z : Int) (l : List Spn) : Nat → Option Spn
  | 0 => none
  | k + 1 =>
    if z ≤ (pa l k).sz then
      match bsK z l k with
      | none => some (pa l k)
      | some b => if BtrP (pa l k) b then some (pa l k) else some b
    else bsK z l k
theorem bs_small {z : Int} {l : List Spn} {k : Nat} (h : ¬ z ≤ (pa l k).sz) : bsK z l (k + 1) = bsK z l k := if_neg h
theorem bs_first {z : Int} {l : List Spn} {k : Nat} (h : z ≤ (pa l k).sz) (h2 : bsK z l k = none) : bsK z l (k + 1) = some (pa l k) := by rw [bsK, if_pos h, h2]
theorem bs_better {z : Int} {l : List Spn} {k : Nat} {b : Spn} (h : z ≤ (pa l k).sz) (h2 : bsK z l k = some b) (h3 : BtrP (pa l k) b) : bsK z l (k + 1) = some (pa l k) := by rw [bsK, if_pos h, h2]; exact if_pos h3
theorem bs_not {z : Int} {l : List Spn} {k : Nat} {b : Spn} (h : z ≤ (pa l k).sz) (h2 : bsK z l k = some b) (h3 : ¬ BtrP (pa l k) b) : bsK z l (k + 1) = some b := by rw [bsK, if_pos h, h2]; exact if_neg h3
def bsO (l : List Spn) (z : Int) : Option Spn := bsK z l l.length
def bsN (l : List Spn) (z : Int) : Spn := (bsO l z).getD Spn.z
def bsB (l : List Spn) (z : Int) : Bool := (bsO l z).isSome
theorem bs_none {z : Int} {l : List Spn} : ∀ {k : Nat}, bsK z l k = none → ∀ i, i < k → (pa l i).sz < z := by
  intro k
  induction k with
  | zero => intro _ i hi; omega
  | succ k ih =>
    intro h i hi
    by_cases hz : z ≤ (pa l k).sz
    · cases e : bsK z l k with
      | none => rw [bs_first hz e] at h; cases h
      | some b =>
        by_cases hb : BtrP (pa l k) b
        · rw [bs_better hz e hb] at h; cases h
        · rw [bs_not hz e hb] at h; cases h
    · rw [bs_small hz] at h
      by_cases e : i = k
      · subst e; omega
      · exact ih h i (by omega)
theorem bs_some {z : Int} {l : List Spn} : ∀ {k : Nat} {b : Spn}, bsK z l k = some b → (∃ i, i < k ∧ pa l i = b) ∧ z ≤ b.sz ∧ ∀ i, i < k → z ≤ (pa l i).sz → ¬ BtrP (pa l i) b := by
  intro k
  induction k with
  | zero => intro b h; cases h
  | succ k ih =>
    intro b h
    by_cases hz : z ≤ (pa l k).sz
    · cases e : bsK z l k with
      | none =>
        rw [bs_first hz e] at h
        simp only [Option.some.injEq] at h
        have hn := bs_none e
        refine ⟨⟨k, by omega, h⟩, by rw [← h]; exact hz, fun i hi h1 => ?_⟩
        by_cases e2 : i = k
        · rw [e2, h]; unfold BtrP; omega
        · have := hn i (by omega); omega
      | some c =>
        obtain ⟨h1, h2, h3⟩ := ih e
        by_cases hb : BtrP (pa l k) c
        · rw [bs_better hz e hb] at h
          simp only [Option.some.injEq] at h
          refine ⟨⟨k, by omega, h⟩, by rw [← h]; exact hz, fun i hi q1 => ?_⟩
          by_cases e2 : i = k
          · rw [e2, h]; unfold BtrP; omega
          · have q2 := h3 i (by omega) q1
            rw [h] at hb
            unfold BtrP at hb q2 ⊢; omega
        · rw [bs_not hz e hb] at h
          simp only [Option.some.injEq] at h
          subst h
          obtain ⟨i, hi, e1⟩ := h1
          refine ⟨⟨i, by omega, e1⟩, h2, fun i hi q1 => ?_⟩
          by_cases e2 : i = k
          · rw [e2]; exact hb
          · exact h3 i (by omega) q1
    · rw [bs_small hz] at h
      obtain ⟨⟨i, hi, e1⟩, h2, h3⟩ := ih h
      refine ⟨⟨i, by omega, e1⟩, h2, fun i hi q1 => ?_⟩
      by_cases e2 : i = k
      · subst e2; omega
      · exact h3 i (by omega) q1
/-- A block laid at the beginning of a gap. -/
theorem lays_in {t q : Int} {s : Spn} (hq : 4 ≤ q) (hq4 : q % 4 = 0) (hqs : q ≤ s.sz) (l : List Spn) : ∀ {f : Int} {k : Nat}, f % 4 = 0 → LayP f t l → s ∈ gapsL f t l → k ≤ l.length → (∀ i, i < k → (pa l i).pos < s.pos) → (k < l.length → ¬ (pa l k).pos < s.pos) →
    LayP f t (l.take k ++ ⟨s.pos, q⟩ :: l.drop k) ∧ bhN (l.take k ++ ⟨s.pos, q⟩ :: l.drop k) t k = s.sz - q := by
  induction l with
  | nil =>
    intro f k hf _ hs hk _ _
    obtain rfl : k = 0 := by simpa using hk
    by_cases h : f < t
    · rw [gapsL, gap1_t h, List.mem_singleton] at hs
      subst hs
      simp only at hqs ⊢
      refine ⟨⟨⟨Int.le_refl _, hf, hq, hqs, hq4⟩, trivial⟩, ?_⟩
      rw [bh_last (by simp)]
      simp only [List.take_nil, List.nil_append, List.drop_nil, pa_cons_zero, Spn.fin]
      omega
    · rw [gapsL, gap1_f h] at hs; cases hs
  | cons u r ih =>
    intro f k hf hl hs hk hb ha
    obtain ⟨⟨a1, a2, a3, a4, a5⟩, h2⟩ := hl
    rw [gapsL, List.mem_append] at hs
    rcases hs with hs | hs
    · by_cases h : f < u.pos
      · rw [gap1_t h, List.mem_singleton] at hs
        subst hs
        simp only at hqs hb ha ⊢
        have hk0 : k = 0 := by
          cases k with
          | zero => rfl
          | succ k => have := hb 0 (by omega); rw [pa_cons_zero] at this; omega
        subst hk0
        simp only [List.take_zero, List.nil_append, List.drop_zero]
        refine ⟨⟨⟨Int.le_refl _, hf, hq, by simp only; omega, hq4⟩, ⟨by simp only [Spn.fin]; omega, a2, a3, a4, a5⟩, h2⟩, ?_⟩
        rw [bh_more (by simp)]
        simp only [pa_cons_succ, pa_cons_zero, Spn.fin]
        omega
      · rw [gap1_f h] at hs; cases hs
    · have hge := (gaps_from r h2 hs).1
      cases k with
      | zero => have := ha (by simp); rw [pa_cons_zero] at this; unfold Spn.fin at hge; omega
      | succ k =>
        obtain ⟨i1, i2⟩ := ih (f := u.fin) (k := k) (by unfold Spn.fin; omega) h2 hs (by simpa using hk) (fun i hi => by have := hb (i + 1) (by omega); rwa [pa_cons_succ] at this) (fun hi => by have := ha (by simpa using hi); rwa [pa_cons_succ] at this)
        simp only [List.take_succ_cons, List.drop_succ_cons, List.cons_append]
        refine ⟨⟨⟨a1, a2, a3, a4, a5⟩, i1⟩, ?_⟩
        rw [← i2]
        simp [bhN, pa_cons_succ]
end Go.Proofs.Ythkloknongkpdaa
/- Heaps of format 1 in plain words: the list of a size, which blocks and data are right, what their bytes are, what the tags lead through; what follows. -/
namespace Go.Proofs.Ythkloknongkpdaa
set_option maxRecDepth 100000
open Go.RowKit
set_option linter.unusedVariables false
set_option linter.unusedSimpArgs false

structure Blk where
  pos : Int
  sz : Int
  ix : Int
def Blk.z : Blk := ⟨0, 0, 0⟩
instance : Inhabited Blk := ⟨Blk.z⟩
theorem Blk.ext' {a b : Blk} (h0 : a.pos = b.pos) (h1 : a.sz = b.sz) (h2 : a.ix = b.ix) : a = b := by
  cases a; cases b; simp_all
instance : DecidableEq Blk := fun a b =>
  if h : a.pos = b.pos ∧ a.sz = b.sz ∧ a.ix = b.ix then .isTrue (Blk.ext' h.1 h.2.1 h.2.2)
  else .isFalse (fun e => h (by subst e; exact ⟨rfl, rfl, rfl⟩))
/-- Its numbers are numbers that an int64 bears. -/
structure RgB (s : Blk) : Prop where
  p : Rg s.pos
  z : Rg s.sz
  i : Rg s.ix
def Blk.spn (s : Blk) : Spn := ⟨s.pos, s.sz⟩
def ba (l : List Blk) (i : Nat) : Blk := l.getD i Blk.z
theorem ba_mem {l : List Blk} {i : Nat} (h : i < l.length) : ba l i ∈ l := by
  simp only [ba, List.getD, List.getElem?_eq_getElem h, Option.getD_some]
  exact List.getElem_mem h
theorem ba_set_same (l : List Blk) (k : Nat) (s : Blk) (h : k < l.length) : ba (l.set k s) k = s := by simp [ba, List.getD, h]
theorem ba_set_other (l : List Blk) (k i : Nat) (s : Blk) (h : k ≠ i) : ba (l.set k s) i = ba l i := by simp [ba, List.getD, List.getElem?_set_ne h]
theorem drop_ba {l : List Blk} {k : Nat} (h : k < l.length) : l.drop k = ba l k :: l.drop (k + 1) := by
  rw [List.drop_eq_getElem_cons h]
  simp [ba, List.getD, List.getElem?_eq_getElem h]
theorem take_ba {l : List Blk} {k : Nat} (h : k < l.length) : l.take (k + 1) = l.take k ++ [ba l k] := by
  rw [List.take_add_one]
  simp [ba, List.getD, List.getElem?_eq_getElem h]
theorem ext_ba {a b : List Blk} (h : a.length = b.length) (k : ∀ i, i < a.length → ba a i = ba b i) : a = b := by
  apply List.ext_getElem?
  intro i
  by_cases hi : i < a.length
  · have hb : i < b.length := by omega
    have := k i hi
    simp only [ba, List.getD, List.getElem?_eq_getElem hi, List.getElem?_eq_getElem hb, Option.getD_some] at this
    rw [List.getElem?_eq_getElem hi, List.getElem?_eq_getElem hb, this]
  · rw [List.getElem?_eq_none (by omega), List.getElem?_eq_none (by omega)]
theorem ba_cons_zero (s : Blk) (l : List Blk) : ba (s :: l) 0 = s := rfl
theorem ba_cons_succ (s : Blk) (l : List Blk) (k : Nat) : ba (s :: l) (k + 1) = ba l k := rfl
/-- The spans of blocks. -/
def spL (l : List Blk) : List Spn := l.map Blk.spn
theorem spL_length (l : List Blk) : (spL l).length = l.length := by simp [spL]
theorem pa_spL (l : List Blk) (i : Nat) : pa (spL l) i = (ba l i).spn := by
  simp only [pa, ba, spL, List.getD, List.getElem?_map]
  cases l[i]? <;> rfl
def da (ds : List (List Int)) (i : Nat) : List Int := ds.getD i []

/-- The list of a size. -/
def lsN (s : Int) : Nat := if s ≤ 4 then 0 else if s ≤ 8 then 1 else if s ≤ 16 then 2 else if s ≤ 32 then 3 else if s ≤ 64 then 4 else if s ≤ 128 then 5 else 6
def lsB (s : Int) : Bool := decide (4 ≤ s)
theorem lsN_lt (s : Int) : lsN s < 7 := by unfold lsN; (repeat' split) <;> omega
theorem lsN_mono {a b : Int} (h : a ≤ b) : lsN a ≤ lsN b := by unfold lsN; (repeat' split) <;> omega
theorem lsN_small {s : Int} (h : s < 4) : lsN s = 0 := by unfold lsN; rw [if_pos (by omega)]
def mostL : List Int := [4, 8, 16, 32, 64, 128]
theorem lsN_at {s : Int} {k : Nat} (hk : k < 6) (h : s ≤ mostL.getD k 0) (hn : ∀ i, i < k → ¬ s ≤ mostL.getD i 0) : lsN s = k := by
  unfold lsN
  match k, hk with
  | 0, _ => simp [mostL] at h; rw [if_pos h]
  | 1, _ => simp [mostL] at h; have := hn 0 (by omega); simp [mostL] at this; rw [if_neg (by omega), if_pos h]
  | 2, _ => simp [mostL] at h; have := hn 1 (by omega); simp [mostL] at this; rw [if_neg (by omega), if_neg (by omega), if_pos h]
  | 3, _ => simp [mostL] at h; have := hn 2 (by omega); simp [mostL] at this; rw [if_neg (by omega), if_neg (by omega), if_neg (by omega), if_pos h]
  | 4, _ => simp [mostL] at h; have := hn 3 (by omega); simp [mostL] at this; rw [if_neg (by omega), if_neg (by omega), if_neg (by omega), if_neg (by omega), if_pos h]
  | 5, _ => simp [mostL] at h; have := hn 4 (by omega); simp [mostL] at this; rw [if_neg (by omega), if_neg (by omega), if_neg (by omega), if_neg (by omega), if_neg (by omega), if_pos h]
theorem lsN_end {s : Int} (hn : ¬ s ≤ 128) : lsN s = 6 := by
  unfold lsN
  rw [if_neg (by omega), if_neg (by omega), if_neg (by omega), if_neg (by omega), if_neg (by omega), if_neg (by omega)]

/-- 1 more than the place of the first one of a list; 0: there is none. -/
def fsL : List Spn → Nat → Int
  | [], _ => 0
  | s :: r, k => if lsN s.sz = k then s.pos + 1 else fsL r k
theorem fs_here {s : Spn} {r : List Spn} {k : Nat} (h : lsN s.sz = k) : fsL (s :: r) k = s.pos + 1 := if_pos h
theorem fs_next {s : Spn} {r : List Spn} {k : Nat} (h : lsN s.sz ≠ k) : fsL (s :: r) k = fsL r k := if_neg h
theorem fs_nil (k : Nat) : fsL [] k = 0 := rfl
theorem fs_bound {n : Int} (l : List Spn) (k : Nat) (h : ∀ s ∈ l, 0 ≤ s.pos ∧ s.pos < n) (hn : 0 ≤ n) : 0 ≤ fsL l k ∧ fsL l k ≤ n := by
  induction l with
  | nil => exact ⟨Int.le_refl _, hn⟩
  | cons s r ih =>
    have h1 := h s (by simp)
    have h2 := ih (fun x hx => h x (by simp [hx]))
    by_cases e : lsN s.sz = k
    · rw [fs_here e]; omega
    · rw [fs_next e]; exact h2
theorem fs_append (a b : List Spn) (k : Nat) (h : ∀ s ∈ a, 0 ≤ s.pos) : fsL (a ++ b) k = if fsL a k = 0 then fsL b k else fsL a k := by
  induction a with
  | nil => simp [fs_nil]
  | cons s r ih =>
    have h1 := h s (by simp)
    have h2 := ih (fun x hx => h x (by simp [hx]))
    rw [List.cons_append]
    by_cases e : lsN s.sz = k
    · rw [fs_here e, fs_here e, if_neg (by omega)]
    · rw [fs_next e, fs_next e]; exact h2
/-- The next one of its list, and the one ahead. -/
def nxL (g : List Spn) (i : Nat) : Int := fsL (g.drop (i + 1)) (lsN (pa g i).sz)
def ahL (g : List Spn) (i : Nat) : Int := fsL (g.take i).reverse (lsN (pa g i).sz)
def hdL (g : List Spn) : List Int := (List.range 7).map (fsL g)
theorem hdL_length (g : List Spn) : (hdL g).length = 7 := by simp [hdL]
theorem hdL_at (g : List Spn) {k : Nat} (h : k < 7) : (hdL g).getD k 0 = fsL g k := by simp [hdL, List.getD, h]
theorem rev_take {g : List Spn} {k : Nat} (h : k < g.length) : (g.take (k + 1)).reverse = pa g k :: (g.take k).reverse := by rw [take_pa h]; simp

/-- Blocks and data go together: slots of their own, room for the data. -/
structure HoldB (l : List Blk) (ds : List (List Int)) : Prop where
  len : ds.length = l.length
  ixs : ∀ i, i < l.length → 0 ≤ (ba l i).ix ∧ (ba l i).ix < 32 ∧ ((da ds i).length : Int) ≤ ((ba l i).sz - 2) * 8
  one : ∀ i j, i < j → j < l.length → (ba l i).ix ≠ (ba l j).ix

/-- A word stands there. -/
def WA (b : List Int) (p : Nat) (x : Int) : Prop := ∀ o, o < 8 → b.getD (8 * p + o) 0 = byt x o
theorem wa_cut {b : List Int} {p : Nat} {x : Int} (h : WA b p x) (hl : 8 * p + 8 ≤ b.length) : cut b p = bys x 8 := by
  apply List.ext_getElem?
  intro o
  by_cases ho : o < 8
  · have := h o ho
    simp only [List.getD, List.getElem?_eq_getElem (show 8 * p + o < b.length by omega), Option.getD_some] at this
    simp only [cut, List.getElem?_take, if_pos ho, List.getElem?_drop, List.getElem?_eq_getElem (show 8 * p + o < b.length by omega), this]
    simp [bys, ho]
  · rw [List.getElem?_eq_none (by simp [cut]; omega), List.getElem?_eq_none (by rw [bys_length]; omega)]
theorem wa_get {b : List Int} {p : Nat} {x : Int} (h : WA b p x) (hl : 8 * p + 8 ≤ b.length) (hx : fitB x = true) : getN b p = x ∧ getB b p = true := by
  have hh : hasB b.length p = true := hasB_t (by omega) (by omega)
  unfold getN getB
  rw [hh, Int.toNat_natCast, wa_cut h hl, (word_bys hx).1, (word_bys hx).2]
  exact ⟨rfl, rfl⟩
theorem put_in {b : List Int} {p : Nat} {x : Int} (hl : 8 * p + 8 ≤ b.length) : WA (putk b (8 * p) x 8) p x := by
  intro o ho
  simp only [List.getD, putk_in b (8 * p) x hl (8 * p + o) (by omega) (by omega), Option.getD_some]
  rw [show 8 * p + o - 8 * p = o by omega]
theorem put_out {b : List Int} {p : Nat} {x : Int} (hl : 8 * p + 8 ≤ b.length) {j : Nat} (hj : j < 8 * p ∨ 8 * p + 8 ≤ j) : (putk b (8 * p) x 8).getD j 0 = b.getD j 0 := by
  simp only [List.getD, putk_here b (8 * p) x hl j (by omega)]
/-- The same there. -/
theorem wa_same {b b' : List Int} {p : Nat} {x : Int} (h : WA b p x) (e : ∀ j, 8 * p ≤ j → j < 8 * p + 8 → b'.getD j 0 = b.getD j 0) : WA b' p x := fun o ho => by
  rw [e (8 * p + o) (by omega) (by omega)]; exact h o ho

def Blk.tag (s : Blk) : Int := 64 * s.sz + s.ix + 1
/-- The word of a place. -/
def wd (f p : Int) : Nat := (p - f).toNat
/-- A used block stands there. -/
structure UsedAt (f : Int) (b : List Int) (s : Blk) (d : List Int) : Prop where
  t0 : WA b (wd f s.pos) s.tag
  t1 : WA b (wd f (s.pos + s.sz - 1)) s.tag
  dat : ∀ j, j < 8 * (s.sz - 2).toNat → b.getD (8 * (wd f s.pos + 1) + j) 0 = d.getD j 0
/-- A free block stands there. -/
structure FreeAt (f : Int) (b : List Int) (s : Spn) (nx ah : Int) : Prop where
  t0 : WA b (wd f s.pos) (64 * s.sz)
  t1 : WA b (wd f (s.pos + s.sz - 1)) (64 * s.sz)
  w1 : WA b (wd f s.pos + 1) nx
  w2 : WA b (wd f s.pos + 2) ah
  rest : ∀ j, 8 * (wd f s.pos + 3) ≤ j → j < 8 * wd f (s.pos + s.sz - 1) → b.getD j 0 = 0
/-- The bytes of a heap. -/
structure HeapB (f t : Int) (l : List Blk) (ds : List (List Int)) (b : List Int) : Prop where
  right : RightP f t (spL l)
  hold : HoldB l ds
  len : b.length = 8 * (t - f).toNat
  used : ∀ i, i < l.length → UsedAt f b (ba l i) (da ds i)
  free : ∀ i, i < (gapsL f t (spL l)).length → FreeAt f b (pa (gapsL f t (spL l)) i) (nxL (gapsL f t (spL l)) i) (ahL (gapsL f t (spL l)) i)

theorem cov_pos {l : List Spn} {k : Int} (h : 0 < cov l k) : ∃ i, i < l.length ∧ (pa l i).pos ≤ k ∧ k < (pa l i).fin := by
  obtain ⟨s, hs, hk⟩ := List.countP_pos_iff.1 h
  obtain ⟨i, hi, rfl⟩ := mem_pa hs
  exact ⟨i, hi, by simpa using hk⟩
/-- Each word is of a used block, or of a free one. -/
theorem heap_words {f t : Int} {l : List Blk} (h : RightP f t (spL l)) {p : Int} (h0 : f ≤ p) (h1 : p < t) :
    (∃ i, i < l.length ∧ (ba l i).pos ≤ p ∧ p < (ba l i).pos + (ba l i).sz) ∨ (∃ i, i < (gapsL f t (spL l)).length ∧ (pa (gapsL f t (spL l)) i).pos ≤ p ∧ p < (pa (gapsL f t (spL l)) i).fin) := by
  have hc := cov_all (spL l) h.2 p
  rw [if_pos ⟨h0, h1⟩] at hc
  by_cases hz : 0 < cov (spL l) p
  · obtain ⟨i, hi, ha, hb⟩ := cov_pos hz
    rw [spL_length] at hi
    rw [pa_spL] at ha hb
    exact .inl ⟨i, hi, ha, hb⟩
  · exact .inr (cov_pos (by omega))
theorem blk_fit {f t : Int} {l : List Blk} (h : RightP f t (spL l)) {i : Nat} (hi : i < l.length) : f ≤ (ba l i).pos ∧ (ba l i).pos % 4 = 0 ∧ 4 ≤ (ba l i).sz ∧ (ba l i).sz ≤ t - (ba l i).pos ∧ (ba l i).sz % 4 = 0 := by
  have := h.fit (i := i) (by rw [spL_length]; exact hi)
  rw [pa_spL] at this
  exact this
theorem blk_order {f t : Int} {l : List Blk} (h : RightP f t (spL l)) {i j : Nat} (hij : i < j) (hj : j < l.length) : (ba l i).pos + (ba l i).sz ≤ (ba l j).pos := by
  have := lay_order h.2 hij (by rw [spL_length]; exact hj)
  rw [pa_spL, pa_spL] at this
  exact this
theorem gap_fit {f t : Int} {l : List Spn} (h : RightP f t l) {i : Nat} (hi : i < (gapsL f t l).length) : f ≤ (pa (gapsL f t l) i).pos ∧ 4 ≤ (pa (gapsL f t l) i).sz ∧ (pa (gapsL f t l) i).sz % 4 = 0 ∧ (pa (gapsL f t l) i).sz ≤ t - (pa (gapsL f t l) i).pos ∧ (pa (gapsL f t l) i).pos % 4 = 0 :=
  glay_at (glay_gaps h.1.2.2.2.2 l h.2 h.1.2.2.2.1) hi
theorem glay_order {t : Int} {l : List Spn} : ∀ {f : Int} {i j : Nat}, GLay f t l → i < j → j < l.length → (pa l i).fin ≤ (pa l j).pos := by
  induction l with
  | nil => intro f i j _ _ h; simp at h
  | cons s r ih =>
    intro f i j h hij hj
    cases j with
    | zero => omega
    | succ j =>
      have hj' : j < r.length := by simpa using hj
      cases i with
      | zero => rw [pa_cons_zero, pa_cons_succ]; have := (glay_at h.2 hj').1; omega
      | succ i => rw [pa_cons_succ, pa_cons_succ]; exact ih h.2 (by omega) hj'
theorem gap_order {f t : Int} {l : List Spn} (h : RightP f t l) {i j : Nat} (hij : i < j) (hj : j < (gapsL f t l).length) : (pa (gapsL f t l) i).fin ≤ (pa (gapsL f t l) j).pos :=
  glay_order (glay_gaps h.1.2.2.2.2 l h.2 h.1.2.2.2.1) hij hj
/-- A used block and a free one have no word in common. -/
theorem gap_apart {f t : Int} {l : List Blk} (h : RightP f t (spL l)) {i j : Nat} (hi : i < l.length) (hj : j < (gapsL f t (spL l)).length) :
    (ba l i).pos + (ba l i).sz ≤ (pa (gapsL f t (spL l)) j).pos ∨ (pa (gapsL f t (spL l)) j).pos + (pa (gapsL f t (spL l)) j).sz ≤ (ba l i).pos := by
  have hf := blk_fit h hi
  have hg := gap_fit h hj
  by_cases c : (ba l i).pos + (ba l i).sz ≤ (pa (gapsL f t (spL l)) j).pos
  · exact .inl c
  · by_cases c2 : (pa (gapsL f t (spL l)) j).pos + (pa (gapsL f t (spL l)) j).sz ≤ (ba l i).pos
    · exact .inr c2
    · exfalso
      obtain ⟨p, h0, h1, h2, h3⟩ : ∃ p, (ba l i).pos ≤ p ∧ p < (ba l i).pos + (ba l i).sz ∧ (pa (gapsL f t (spL l)) j).pos ≤ p ∧ p < (pa (gapsL f t (spL l)) j).pos + (pa (gapsL f t (spL l)) j).sz := by
        by_cases d : (ba l i).pos ≤ (pa (gapsL f t (spL l)) j).pos
        · exact ⟨(pa (gapsL f t (spL l)) j).pos, by omega, by omega, by omega, by omega⟩
        · exact ⟨(ba l i).pos, by omega, by omega, by omega, by omega⟩
      have hc := cov_all (spL l) h.2 p
      rw [if_pos ⟨by omega, by omega⟩] at hc
      have e1 : 0 < cov (spL l) p := List.countP_pos_iff.2 ⟨(ba l i).spn, by rw [← pa_spL]; exact pa_mem (by rw [spL_length]; exact hi), decide_eq_true ⟨h0, h1⟩⟩
      have e2 : 0 < cov (gapsL f t (spL l)) p := List.countP_pos_iff.2 ⟨_, pa_mem hj, decide_eq_true ⟨h2, h3⟩⟩
      omega
theorem getD_out {b : List Int} {j : Nat} (h : b.length ≤ j) : b.getD j 0 = 0 := by simp [List.getD, List.getElem?_eq_none h]
theorem ext_getD {a b : List Int} (h : a.length = b.length) (k : ∀ i, i < a.length → a.getD i 0 = b.getD i 0) : a = b := by
  apply List.ext_getElem?
  intro i
  by_cases hi : i < a.length
  · have hb : i < b.length := by omega
    have := k i hi
    simp only [List.getD, List.getElem?_eq_getElem hi, List.getElem?_eq_getElem hb, Option.getD_some] at this
    rw [List.getElem?_eq_getElem hi, List.getElem?_eq_getElem hb, this]
  · rw [List.getElem?_eq_none (by omega), List.getElem?_eq_none (by omega)]
theorem wa_two {b b' : List Int} {p : Nat} {x : Int} (h : WA b p x) (h' : WA b' p x) {j : Nat} (h0 : 8 * p ≤ j) (h1 : j < 8 * p + 8) : b.getD j 0 = b'.getD j 0 := by
  have e1 := h (j - 8 * p) (by omega)
  have e2 := h' (j - 8 * p) (by omega)
  rw [show 8 * p + (j - 8 * p) = j by omega] at e1 e2
  rw [e1, e2]
/-- There is one row of bytes of a heap. -/
theorem heap_one {f t : Int} {l : List Blk} {ds : List (List Int)} {b b' : List Int} (h : HeapB f t l ds b) (h' : HeapB f t l ds b') : b = b' := by
  have hft := h.right.1.2.1
  refine ext_getD (by rw [h.len, h'.len]) (fun j hj => ?_)
  rw [h.len] at hj
  obtain ⟨p, hp⟩ : ∃ p : Int, p = f + ((j / 8 : Nat) : Int) := ⟨_, rfl⟩
  rcases heap_words h.right (p := p) (by omega) (by omega) with ⟨i, hi, h0, h1⟩ | ⟨i, hi, h0, h1⟩
  · have u := h.used i hi
    have u' := h'.used i hi
    have hf := blk_fit h.right hi
    generalize ba l i = s at *
    by_cases c0 : p = s.pos
    · exact wa_two u.t0 u'.t0 (by unfold wd; omega) (by unfold wd; omega)
    · by_cases c1 : p = s.pos + s.sz - 1
      · exact wa_two u.t1 u'.t1 (by unfold wd; omega) (by unfold wd; omega)
      · have e1 := u.dat (j - 8 * (wd f s.pos + 1)) (by unfold wd; omega)
        have e2 := u'.dat (j - 8 * (wd f s.pos + 1)) (by unfold wd; omega)
        rw [show 8 * (wd f s.pos + 1) + (j - 8 * (wd f s.pos + 1)) = j by unfold wd; omega] at e1 e2
        rw [e1, e2]
  · have u := h.free i hi
    have u' := h'.free i hi
    have hf := gap_fit h.right hi
    generalize pa (gapsL f t (spL l)) i = s at *
    unfold Spn.fin at h1
    by_cases c0 : p = s.pos
    · exact wa_two u.t0 u'.t0 (by unfold wd; omega) (by unfold wd; omega)
    · by_cases c1 : p = s.pos + s.sz - 1
      · exact wa_two u.t1 u'.t1 (by unfold wd; omega) (by unfold wd; omega)
      · by_cases c2 : p = s.pos + 1
        · exact wa_two u.w1 u'.w1 (by unfold wd; omega) (by unfold wd; omega)
        · by_cases c3 : p = s.pos + 2
          · exact wa_two u.w2 u'.w2 (by unfold wd; omega) (by unfold wd; omega)
          · rw [u.rest j (by unfold wd; omega) (by unfold wd; omega), u'.rest j (by unfold wd; omega) (by unfold wd; omega)]
/-- Bytes 0 behind the data turn nothing. -/
theorem HeapB.pad {f t : Int} {l : List Blk} {ds ds' : List (List Int)} {b : List Int} (h : HeapB f t l ds b) (hh : HoldB l ds') (he : ∀ i, i < l.length → ∀ j, j < 8 * ((ba l i).sz - 2).toNat → (da ds' i).getD j 0 = (da ds i).getD j 0) : HeapB f t l ds' b :=
  ⟨h.right, hh, h.len, fun i hi => ⟨(h.used i hi).t0, (h.used i hi).t1, fun j hj => by rw [he i hi j hj]; exact (h.used i hi).dat j hj⟩, h.free⟩
/-- What stands between a block's tags. -/
def inL (f : Int) (b : List Int) (s : Blk) : List Int := (b.drop (8 * (wd f s.pos + 1))).take (8 * (s.sz - 2).toNat)
def fullD (f : Int) (b : List Int) (l : List Blk) : List (List Int) := l.map (inL f b)
theorem fullD_length (f : Int) (b : List Int) (l : List Blk) : (fullD f b l).length = l.length := by simp [fullD]
theorem da_full (f : Int) (b : List Int) (l : List Blk) {i : Nat} (h : i < l.length) : da (fullD f b l) i = inL f b (ba l i) := by
  simp [da, ba, fullD, List.getD, List.getElem?_eq_getElem h]
theorem inL_at {f : Int} {b : List Int} {s : Blk} {j : Nat} (h : j < 8 * (s.sz - 2).toNat) : (inL f b s).getD j 0 = b.getD (8 * (wd f s.pos + 1) + j) 0 := by
  simp [inL, List.getD, List.getElem?_take, h]
theorem inL_length {f t : Int} {b : List Int} {s : Blk} (hl : b.length = 8 * (t - f).toNat) (h0 : f ≤ s.pos) (h1 : 4 ≤ s.sz) (h2 : s.sz ≤ t - s.pos) : (inL f b s).length = 8 * (s.sz - 2).toNat := by
  simp only [inL, List.length_take, List.length_drop, hl, wd]
  omega
theorem HeapB.full {f t : Int} {l : List Blk} {ds : List (List Int)} {b : List Int} (h : HeapB f t l ds b) : HeapB f t l (fullD f b l) b := by
  refine h.pad ⟨fullD_length f b l, fun i hi => ?_, h.hold.one⟩ (fun i hi j hj => ?_)
  · have hf := blk_fit h.right hi
    have hx := h.hold.ixs i hi
    rw [da_full f b l hi, inL_length h.len hf.1 hf.2.2.1 hf.2.2.2.1]
    exact ⟨hx.1, hx.2.1, by omega⟩
  · rw [da_full f b l hi, inL_at hj]
    exact (h.used i hi).dat j hj

theorem fit_tag {s : Blk} (h0 : 0 ≤ s.sz) (h1 : s.sz ≤ 2048) (h2 : 0 ≤ s.ix) (h3 : s.ix < 32) : fitB s.tag = true := by unfold Blk.tag; exact fitB_t (by omega) (by omega)
theorem tag_two {s : Blk} (h2 : 0 ≤ s.ix) (h3 : s.ix < 32) : s.tag / 64 = s.sz ∧ s.tag % 64 - 1 = s.ix ∧ 0 < s.tag % 64 := by unfold Blk.tag; omega

/-- One comes from tag to tag to the end, over these used blocks. -/
inductive Chain (f t : Int) (b : List Int) : Int → List Blk → Prop
  | done : Chain f t b t []
  | free {a n : Int} {r : List Blk} : a < t → getN b (a - f) = n → 4 ≤ n / 64 → getN b (a - f + n / 64 - 1) = n → n % 64 = 0 → Chain f t b (a + n / 64) r → Chain f t b a r
  | used {a n : Int} {r : List Blk} : a < t → getN b (a - f) = n → 4 ≤ n / 64 → getN b (a - f + n / 64 - 1) = n → 0 < n % 64 → Chain f t b (a + n / 64) r → Chain f t b a (⟨a, n / 64, n % 64 - 1⟩ :: r)
theorem Chain.one {f t : Int} {b : List Int} {a : Int} {r r' : List Blk} (h : Chain f t b a r) (h' : Chain f t b a r') : r = r' := by
  induction h generalizing r' with
  | done => cases h' with
    | done => rfl
    | free h => omega
    | used h => omega
  | free h0 h1 h2 h3 h4 _ ih =>
    cases h' with
    | done => omega
    | free g0 g1 g2 g3 g4 g5 => rw [h1] at g1; subst g1; exact ih g5
    | used g0 g1 g2 g3 g4 g5 => rw [h1] at g1; subst g1; omega
  | used h0 h1 h2 h3 h4 _ ih =>
    cases h' with
    | done => omega
    | free g0 g1 g2 g3 g4 g5 => rw [h1] at g1; subst g1; omega
    | used g0 g1 g2 g3 g4 g5 => rw [h1] at g1; subst g1; rw [ih g5]
/-- Both tags of each block are there. -/
structure Tags (f t : Int) (b : List Int) (a : Int) (l : List Blk) : Prop where
  used : ∀ s ∈ l, getN b (s.pos - f) = s.tag ∧ getN b (s.pos + s.sz - 1 - f) = s.tag ∧ 0 ≤ s.ix ∧ s.ix < 32
  free : ∀ s ∈ gapsL a t (spL l), getN b (s.pos - f) = 64 * s.sz ∧ getN b (s.pos + s.sz - 1 - f) = 64 * s.sz
theorem chain_gap {f t : Int} {b : List Int} {a e : Int} {r : List Blk} (ha : a < e) (h4 : 4 ≤ e - a) (he : e ≤ t) (h : getN b (a - f) = 64 * (e - a) ∧ getN b (a + (e - a) - 1 - f) = 64 * (e - a)) (hr : Chain f t b e r) : Chain f t b a r := by
  have q : 64 * (e - a) / 64 = e - a := by omega
  refine Chain.free (by omega) h.1 (by omega) ?_ (by omega) ?_
  · rw [q, show a - f + (e - a) - 1 = a + (e - a) - 1 - f by omega]; exact h.2
  · rw [q, show a + (e - a) = e by omega]; exact hr
theorem chain_of {f t : Int} {b : List Int} (ht : t % 4 = 0) : ∀ (l : List Blk) (a : Int), LayP a t (spL l) → a % 4 = 0 → a ≤ t → Tags f t b a l → Chain f t b a l := by
  intro l
  induction l with
  | nil =>
    intro a _ ha hat h
    by_cases c : a < t
    · have := h.free ⟨a, t - a⟩ (by simp [spL, gapsL, gap1_t c])
      exact chain_gap c (by omega) (Int.le_refl _) this .done
    · obtain rfl : a = t := by omega
      exact .done
  | cons s r ih =>
    intro a hl ha hat h
    obtain ⟨⟨a1, a2, a3, a4, a5⟩, h2⟩ := hl
    simp only [Blk.spn, Spn.fin] at a1 a2 a3 a4 a5 h2
    have hu := h.used s (by simp)
    have q := tag_two hu.2.2.1 hu.2.2.2
    have hrest : Chain f t b (s.pos + s.sz) r := ih _ h2 (by omega) (by omega) ⟨fun x hx => h.used x (by simp [hx]), fun x hx => h.free x (by simp only [spL, List.map_cons, gapsL]; exact List.mem_append_right _ hx)⟩
    have hs : Chain f t b s.pos (s :: r) := by
      have := Chain.used (f := f) (t := t) (b := b) (a := s.pos) (n := s.tag) (r := r) (by omega) hu.1 (by omega) (by rw [q.1, show s.pos - f + s.sz - 1 = s.pos + s.sz - 1 - f by omega]; exact hu.2.1) q.2.2 (by rw [q.1]; exact hrest)
      rw [q.1, q.2.1] at this
      exact this
    by_cases c : a < s.pos
    · have := h.free ⟨a, s.pos - a⟩ (by simp only [spL, List.map_cons, gapsL]; exact List.mem_append_left _ (by simp [Blk.spn, gap1_t c]))
      exact chain_gap c (by omega) (by omega) this hs
    · obtain rfl : a = s.pos := by omega
      exact hs
theorem HeapB.tags {f t : Int} {l : List Blk} {ds : List (List Int)} {b : List Int} (h : HeapB f t l ds b) : Tags f t b f l := by
  have hl := h.len
  obtain ⟨hE, _⟩ := h.right
  unfold EndP at hE
  have get : ∀ (p : Int) (x : Int), f ≤ p → p < t → WA b (wd f p) x → fitB x = true → getN b (p - f) = x := fun p x h0 h1 hw hx => by
    have := (wa_get hw (by unfold wd; omega) hx).1
    rwa [show ((wd f p : Nat) : Int) = p - f by unfold wd; omega] at this
  refine ⟨fun s hs => ?_, fun s hs => ?_⟩
  · obtain ⟨i, hi, rfl⟩ := List.getElem_of_mem hs
    have e : l[i] = ba l i := by simp [ba, List.getD, List.getElem?_eq_getElem hi]
    rw [e]
    have hf := blk_fit h.right hi
    have hx := h.hold.ixs i hi
    have ft := fit_tag (s := ba l i) (by omega) (by omega) hx.1 hx.2.1
    exact ⟨get _ _ hf.1 (by omega) (h.used i hi).t0 ft, get _ _ (by omega) (by omega) (h.used i hi).t1 ft, hx.1, hx.2.1⟩
  · obtain ⟨i, hi, rfl⟩ := mem_pa hs
    have hf := gap_fit h.right hi
    have ft : fitB (64 * (pa (gapsL f t (spL l)) i).sz) = true := fitB_t (by omega) (by omega)
    exact ⟨get _ _ hf.1 (by omega) (h.free i hi).t0 ft, get _ _ (by omega) (by omega) (h.free i hi).t1 ft⟩
theorem HeapB.chain {f t : Int} {l : List Blk} {ds : List (List Int)} {b : List Int} (h : HeapB f t l ds b) : Chain f t b f l :=
  chain_of h.right.1.2.2.2.2 l f h.right.2 h.right.1.2.2.2.1 h.right.1.2.1 h.tags
/-- Bytes are of one heap alone. -/
theorem heap_blocks {f t : Int} {l l' : List Blk} {ds ds' : List (List Int)} {b : List Int} (h : HeapB f t l ds b) (h' : HeapB f t l' ds' b) : l = l' := h.chain.one h'.chain
end Go.Proofs.Ythkloknongkpdaa
/- Classes of cells: what chapter 12 says of numbers, as functions of integers. -/
namespace Go.Proofs.Ythkloknongkpdaa
set_option maxRecDepth 100000
set_option linter.unusedVariables false

/-- The words of each class's cells. -/
def szL : List Int := [2, 3, 5, 7, 10, 15]
/-- The class of an object of so many bytes (0: none). -/
def clN (n : Int) : Nat := if n ≤ 16 then 0 else if n ≤ 24 then 1 else if n ≤ 40 then 2 else if n ≤ 56 then 3 else if n ≤ 80 then 4 else if n ≤ 120 then 5 else 0
def clB (n : Int) : Bool := decide (1 ≤ n ∧ n ≤ 120)
/-- The words of a class's cells, the cells of its slabs (0: none). -/
def wdN (c : Int) : Int := if c = 0 then 2 else if c = 1 then 3 else if c = 2 then 5 else if c = 3 then 7 else if c = 4 then 10 else if c = 5 then 15 else 0
def wdE (c : Int) : Int := if 0 ≤ c ∧ c < 6 then 0 else 1
def ceN (c : Int) : Int := if c = 0 then 14 else if c = 1 then 9 else if c = 2 then 5 else if c = 3 then 4 else if c = 4 then 2 else if c = 5 then 1 else 0
/-- The pages of a large object. -/
def pgN (n : Int) : Int := if 120 < n ∧ n ≤ 2048 then (n + 255) / 256 else 0
def pgE (n : Int) : Int := if 120 < n ∧ n ≤ 2048 then 0 else 1
/-- The word where a cell begins. -/
def CtOk (c k : Int) : Prop := 0 ≤ k ∧ k < ceN c
instance (c k : Int) : Decidable (CtOk c k) := by unfold CtOk; exact inferInstance
def ctN (c k : Int) : Int := if CtOk c k then 4 + k * wdN c else 0
def ctE (c k : Int) : Int := if CtOk c k then 0 else 1
/-- The cell that begins at a word. -/
def WhOk (c o : Int) : Prop := 4 ≤ o ∧ (o - 4) / wdN c < ceN c ∧ (o - 4) % wdN c = 0
instance (c o : Int) : Decidable (WhOk c o) := by unfold WhOk; exact inferInstance
def whN (c o : Int) : Int := if WhOk c o then (o - 4) / wdN c else 0
def whB (c o : Int) : Bool := decide (WhOk c o)

theorem cls_cases (c : Int) : (c = 0 ∨ c = 1 ∨ c = 2 ∨ c = 3 ∨ c = 4 ∨ c = 5) ∨ (¬ (0 ≤ c ∧ c < 6)) := by omega
theorem wdN_out {c : Int} (h : ¬ (0 ≤ c ∧ c < 6)) : wdN c = 0 := by
  unfold wdN
  rw [if_neg (by omega), if_neg (by omega), if_neg (by omega), if_neg (by omega), if_neg (by omega), if_neg (by omega)]
theorem ceN_out {c : Int} (h : ¬ (0 ≤ c ∧ c < 6)) : ceN c = 0 := by
  unfold ceN
  rw [if_neg (by omega), if_neg (by omega), if_neg (by omega), if_neg (by omega), if_neg (by omega), if_neg (by omega)]
theorem wdE_out {c : Int} (h : ¬ (0 ≤ c ∧ c < 6)) : wdE c = 1 := if_neg h
theorem wdE_in {c : Int} (h : 0 ≤ c ∧ c < 6) : wdE c = 0 := if_pos h
theorem ctOk_out {c k : Int} (h : ¬ (0 ≤ c ∧ c < 6)) : ¬ CtOk c k := fun hk => by have := ceN_out h; obtain ⟨h1, h2⟩ := hk; omega
theorem whOk_out {c o : Int} (h : ¬ (0 ≤ c ∧ c < 6)) : ¬ WhOk c o := fun hk => by
  obtain ⟨h1, h2, h3⟩ := hk
  rw [wdN_out h, ceN_out h, Int.ediv_zero] at h2
  omega
/-- What is known of a class's words and cells. -/
theorem cls_in {c : Int} (h : 0 ≤ c ∧ c < 6) : 2 ≤ wdN c ∧ wdN c ≤ 15 ∧ 1 ≤ ceN c ∧ ceN c ≤ 14 ∧ 4 + wdN c * ceN c ≤ 32 ∧ 32 < 4 + wdN c * (ceN c + 1) := by
  rcases (show c = 0 ∨ c = 1 ∨ c = 2 ∨ c = 3 ∨ c = 4 ∨ c = 5 by omega) with rfl | rfl | rfl | rfl | rfl | rfl <;> decide
theorem ct_f {c k : Int} (h : ¬ CtOk c k) : ctN c k = 0 ∧ ctE c k = 1 := ⟨if_neg h, if_neg h⟩
theorem ct_t {c k : Int} (h : CtOk c k) : ctN c k = 4 + k * wdN c ∧ ctE c k = 0 := ⟨if_pos h, if_pos h⟩
theorem wh_f {c o : Int} (h : ¬ WhOk c o) : whN c o = 0 ∧ whB c o = false := ⟨if_neg h, decide_eq_false h⟩
theorem wh_t {c o : Int} (h : WhOk c o) : whN c o = (o - 4) / wdN c ∧ whB c o = true := ⟨if_pos h, decide_eq_true h⟩
theorem CtOk.cls {c k : Int} (h : CtOk c k) : 0 ≤ c ∧ c < 6 := Decidable.byContradiction fun hn => ctOk_out hn h
theorem WhOk.cls {c k : Int} (h : WhOk c k) : 0 ≤ c ∧ c < 6 := Decidable.byContradiction fun hn => whOk_out hn h
/-- Cell, then Which. -/
theorem wh_ct {c k : Int} (h : CtOk c k) : WhOk c (ctN c k) ∧ whN c (ctN c k) = k := by
  have hc := h.cls
  obtain ⟨w1, w2, _⟩ := cls_in hc
  obtain ⟨e, _⟩ := ct_t h
  have h1 : (4 + k * wdN c - 4) = k * wdN c := by omega
  have h2 : (k * wdN c) / wdN c = k := Int.mul_ediv_cancel _ (by omega)
  have ok : WhOk c (ctN c k) := by
    rw [e]
    refine ⟨?_, ?_, ?_⟩
    · have := Int.mul_nonneg h.1 (show 0 ≤ wdN c by omega)
      omega
    · rw [h1, h2]; exact h.2
    · rw [h1]; exact Int.mul_emod_left _ _
  refine ⟨ok, ?_⟩
  rw [(wh_t ok).1, e, h1, h2]
/-- Which, then Cell. -/
theorem ct_wh {c o : Int} (h : WhOk c o) : CtOk c (whN c o) ∧ ctN c (whN c o) = o := by
  have hc := h.cls
  obtain ⟨w1, w2, _⟩ := cls_in hc
  obtain ⟨e, _⟩ := wh_t h
  obtain ⟨h1, h2, h3⟩ := h
  have ok : CtOk c (whN c o) := by
    rw [e]
    exact ⟨Int.ediv_nonneg (by omega) (by omega), h2⟩
  refine ⟨ok, ?_⟩
  rw [(ct_t ok).1, e]
  have := Int.mul_ediv_add_emod (o - 4) (wdN c)
  rw [h3, Int.mul_comm] at this
  omega
theorem pg_t {n : Int} (h : 120 < n ∧ n ≤ 2048) : pgN n = (n + 255) / 256 ∧ pgE n = 0 := ⟨if_pos h, if_pos h⟩
theorem pg_f {n : Int} (h : ¬ (120 < n ∧ n ≤ 2048)) : pgN n = 0 ∧ pgE n = 1 := ⟨if_neg h, if_neg h⟩
theorem cl_f {n : Int} (h : ¬ (1 ≤ n ∧ n ≤ 120)) : clN n = 0 ∧ clB n = false := by
  refine ⟨?_, decide_eq_false h⟩
  unfold clN
  by_cases h1 : n ≤ 16
  · rw [if_pos h1]
  · rw [if_neg h1, if_neg (by omega), if_neg (by omega), if_neg (by omega), if_neg (by omega), if_neg (by omega)]
theorem cl_b {n : Int} (h : 1 ≤ n ∧ n ≤ 120) : clB n = true := decide_eq_true h
theorem clN_lt (n : Int) : clN n < 6 := by
  unfold clN
  split <;> try omega
  split <;> try omega
  split <;> try omega
  split <;> try omega
  split <;> try omega
  split <;> omega
/-- A small one's class is the first whose cell holds it. -/
theorem clN_at {n : Int} {k : Nat} (hk : k < 6) (h0 : 1 ≤ n) (h : n ≤ 8 * szL.getD k 0) (hl : ∀ i, i < k → ¬ n ≤ 8 * szL.getD i 0) : clN n = k ∧ clB n = true := by
  have p0 := hl 0; have p1 := hl 1; have p2 := hl 2; have p3 := hl 3; have p4 := hl 4
  rcases (show k = 0 ∨ k = 1 ∨ k = 2 ∨ k = 3 ∨ k = 4 ∨ k = 5 by omega) with rfl | rfl | rfl | rfl | rfl | rfl
  · have : n ≤ 16 := h
    exact ⟨by unfold clN; rw [if_pos this], cl_b ⟨h0, by omega⟩⟩
  · have : n ≤ 24 := h
    have q0 : ¬ n ≤ 16 := p0 (by omega)
    exact ⟨by unfold clN; rw [if_neg q0, if_pos this], cl_b ⟨h0, by omega⟩⟩
  · have : n ≤ 40 := h
    have q0 : ¬ n ≤ 24 := p1 (by omega)
    exact ⟨by unfold clN; rw [if_neg (by omega), if_neg q0, if_pos this], cl_b ⟨h0, by omega⟩⟩
  · have : n ≤ 56 := h
    have q0 : ¬ n ≤ 40 := p2 (by omega)
    exact ⟨by unfold clN; rw [if_neg (by omega), if_neg (by omega), if_neg q0, if_pos this], cl_b ⟨h0, by omega⟩⟩
  · have : n ≤ 80 := h
    have q0 : ¬ n ≤ 56 := p3 (by omega)
    exact ⟨by unfold clN; rw [if_neg (by omega), if_neg (by omega), if_neg (by omega), if_neg q0, if_pos this], cl_b ⟨h0, by omega⟩⟩
  · have : n ≤ 120 := h
    have q0 : ¬ n ≤ 80 := p4 (by omega)
    exact ⟨by unfold clN; rw [if_neg (by omega), if_neg (by omega), if_neg (by omega), if_neg (by omega), if_neg q0, if_pos this], cl_b ⟨h0, by omega⟩⟩
theorem cl_out {n : Int} (hl : ∀ i, i < 6 → ¬ n ≤ 8 * szL.getD i 0) : clN n = 0 ∧ clB n = false := by
  have q : ¬ n ≤ 120 := hl 5 (by omega)
  exact cl_f (by omega)
/-- A small one's cell holds it, one of a lesser class does not. -/
theorem cl_holds {n : Int} (h : 1 ≤ n ∧ n ≤ 120) : n ≤ 8 * wdN (clN n) ∧ 8 * wdN ((clN n : Int) - 1) < n ∧ (wdE ((clN n : Int) - 1) = 0 ∨ wdE ((clN n : Int) - 1) = 1) := by
  refine ⟨?_, ?_, ?_⟩
  · unfold clN
    split <;> (try (simp [wdN]; omega))
    split <;> (try (simp [wdN]; omega))
    split <;> (try (simp [wdN]; omega))
    split <;> (try (simp [wdN]; omega))
    split <;> (try (simp [wdN]; omega))
    split <;> (simp [wdN]; omega)
  · unfold clN
    split <;> (try (simp [wdN]; omega))
    split <;> (try (simp [wdN]; omega))
    split <;> (try (simp [wdN]; omega))
    split <;> (try (simp [wdN]; omega))
    split <;> (try (simp [wdN]; omega))
    split <;> (simp [wdN]; omega)
  · unfold wdE
    split
    · exact Or.inl rfl
    · exact Or.inr rfl
end Go.Proofs.Ythkloknongkpdaa
/- Objects in pages in plain words: which lie right, what kind a page is, what a further object turns. -/
namespace Go.Proofs.Ythkloknongkpdaa
set_option maxRecDepth 100000
set_option linter.unusedVariables false
set_option linter.unusedSimpArgs false

/-- A small object (pos: its At, sz: its Len) that lies in a cell. -/
def SmC (o : Spn) : Prop := (1 ≤ o.sz ∧ o.sz ≤ 120) ∧ 0 ≤ o.pos ∧ WhOk (clN o.sz) (o.pos % 32)
instance (o : Spn) : Decidable (SmC o) := by unfold SmC; exact inferInstance
/-- A large one that lies in so many pages. -/
def LgC (P : Int) (o : Spn) : Prop := (120 < o.sz ∧ o.sz ≤ 2048) ∧ 0 ≤ o.pos ∧ o.pos % 32 = 0 ∧ o.pos / 32 + pgN o.sz ≤ P
instance (P : Int) (o : Spn) : Decidable (LgC P o) := by unfold LgC; exact inferInstance
def InC (P : Int) (o : Spn) : Prop := (SmC o ∧ o.pos / 32 < P) ∨ LgC P o
instance (P : Int) (o : Spn) : Decidable (InC P o) := by unfold InC; exact inferInstance
/-- Its first page, and how many it has. -/
def pgA (o : Spn) : Int := o.pos / 32
def pgK (o : Spn) : Int := if o.sz ≤ 120 then 1 else pgN o.sz
def HasC (o : Spn) (p : Int) : Prop := pgA o ≤ p ∧ p < pgA o + pgK o
instance (o : Spn) (p : Int) : Decidable (HasC o p) := by unfold HasC; exact inferInstance
/-- The kind that it gives to a page of its own. -/
def kdO (o : Spn) (p : Int) : Int := if o.sz ≤ 120 then (clN o.sz : Int) else if p = pgA o then 6 else 7
/-- Two that may lie beside each other. -/
def FitO (a b : Spn) : Prop := a.pos ≠ b.pos ∧ (pgA a + pgK a ≤ pgA b ∨ pgA b + pgK b ≤ pgA a ∨ (a.sz ≤ 120 ∧ b.sz ≤ 120 ∧ clN a.sz = clN b.sz))
instance (a b : Spn) : Decidable (FitO a b) := by unfold FitO; exact inferInstance
theorem FitO.symm {a b : Spn} (h : FitO a b) : FitO b a := by
  obtain ⟨h1, h2⟩ := h
  refine ⟨fun e => h1 e.symm, ?_⟩
  rcases h2 with h2 | h2 | ⟨x, y, z⟩
  · exact Or.inr (Or.inl h2)
  · exact Or.inl h2
  · exact Or.inr (Or.inr ⟨y, x, z.symm⟩)
/-- Objects are right in so many pages. -/
structure RightO (P : Int) (l : List Spn) : Prop where
  rng : 0 ≤ P ∧ P ≤ 64
  lie : ∀ o ∈ l, InC P o
  fit : l.Pairwise FitO
theorem rightO_iff {P : Int} {l : List Spn} : RightO P l ↔ ((0 ≤ P ∧ P ≤ 64) ∧ (∀ o ∈ l, InC P o) ∧ l.Pairwise FitO) := ⟨fun h => ⟨h.1, h.2, h.3⟩, fun h => ⟨h.1, h.2.1, h.2.2⟩⟩
instance (P : Int) (l : List Spn) : Decidable (RightO P l) := decidable_of_iff _ rightO_iff.symm
theorem InC.len {P : Int} {o : Spn} (h : InC P o) : 1 ≤ o.sz ∧ o.sz ≤ 2048 ∧ 0 ≤ o.pos := by
  rcases h with ⟨⟨h1, h2, _⟩, _⟩ | ⟨h1, h2, _⟩ <;> exact ⟨by omega, by omega, h2⟩
theorem pgN_in {n : Int} (h : 120 < n ∧ n ≤ 2048) : 1 ≤ pgN n ∧ pgN n ≤ 8 := by rw [(pg_t h).1]; omega
theorem InC.pgk {P : Int} {o : Spn} (h : InC P o) : 1 ≤ pgK o ∧ pgK o ≤ 8 := by
  obtain ⟨a, b, c⟩ := h.len
  unfold pgK
  split
  · omega
  · exact pgN_in ⟨by omega, b⟩
theorem pgK_small {o : Spn} (h : o.sz ≤ 120) : pgK o = 1 := if_pos h
theorem pgK_large {o : Spn} (h : ¬ o.sz ≤ 120) : pgK o = pgN o.sz := if_neg h
theorem InC.small {P : Int} {o : Spn} (h : InC P o) (hs : o.sz ≤ 120) : SmC o ∧ pgA o < P := by
  rcases h with ⟨h1, h2⟩ | ⟨h1, _⟩
  · exact ⟨h1, h2⟩
  · omega
theorem InC.large {P : Int} {o : Spn} (h : InC P o) (hs : ¬ o.sz ≤ 120) : LgC P o := by
  rcases h with ⟨⟨h1, _⟩, h2⟩ | h1
  · omega
  · exact h1
theorem InC.within {P : Int} {o : Spn} (h : InC P o) : 0 ≤ pgA o ∧ pgA o + pgK o ≤ P := by
  obtain ⟨a, b, c⟩ := h.len
  refine ⟨by unfold pgA; omega, ?_⟩
  by_cases hs : o.sz ≤ 120
  · rw [pgK_small hs]; have := (h.small hs).2; omega
  · rw [pgK_large hs]; exact (h.large hs).2.2.2
theorem InC.has {P : Int} {o : Spn} (h : InC P o) {p : Int} (hp : HasC o p) : 0 ≤ p ∧ p < P := by
  obtain ⟨a, b⟩ := h.within
  obtain ⟨c, d⟩ := hp
  omega
theorem InC.first {P : Int} {o : Spn} (h : InC P o) : HasC o (pgA o) := ⟨Int.le_refl _, by have := h.pgk; omega⟩
theorem kdO_nn (o : Spn) (p : Int) : 0 ≤ kdO o p ∧ kdO o p ≤ 7 := by
  have := clN_lt o.sz
  unfold kdO
  split
  · omega
  · split <;> omega
theorem kdO_small {o : Spn} (h : o.sz ≤ 120) (p : Int) : kdO o p = clN o.sz := if_pos h
theorem kdO_large {o : Spn} (h : ¬ o.sz ≤ 120) (p : Int) : kdO o p = if p = pgA o then 6 else 7 := if_neg h
theorem kdO_lt {o : Spn} {p : Int} : kdO o p < 6 ↔ o.sz ≤ 120 := by
  have := clN_lt o.sz
  unfold kdO
  split
  · omega
  · split <;> omega
theorem FitO.share {a b : Spn} {p : Int} (h : FitO a b) (ha : HasC a p) (hb : HasC b p) : a.sz ≤ 120 ∧ b.sz ≤ 120 ∧ clN a.sz = clN b.sz := by
  obtain ⟨_, h2⟩ := h
  obtain ⟨a1, a2⟩ := ha
  obtain ⟨b1, b2⟩ := hb
  rcases h2 with h2 | h2 | h2
  · omega
  · omega
  · exact h2
theorem RightO.nil {P : Int} (h : 0 ≤ P ∧ P ≤ 64) : RightO P [] := ⟨h, fun o ho => (List.not_mem_nil ho).elim, List.Pairwise.nil⟩
theorem rightO_snoc {P : Int} {l : List Spn} {o : Spn} : RightO P (l ++ [o]) ↔ RightO P l ∧ InC P o ∧ ∀ a ∈ l, FitO a o := by
  constructor
  · rintro ⟨h1, h2, h3⟩
    obtain ⟨f1, f2, f3⟩ := List.pairwise_append.1 h3
    exact ⟨⟨h1, fun x hx => h2 x (List.mem_append.2 (Or.inl hx)), f1⟩, h2 o (by simp), fun a ha => f3 a ha o (by simp)⟩
  · rintro ⟨⟨h1, h2, h3⟩, h4, h5⟩
    refine ⟨h1, fun x hx => ?_, List.pairwise_append.2 ⟨h3, List.pairwise_singleton _ _, fun a ha b hb => ?_⟩⟩
    · rcases List.mem_append.1 hx with hx | hx
      · exact h2 x hx
      · rw [List.mem_singleton.1 hx]; exact h4
    · rw [List.mem_singleton.1 hb]; exact h5 a ha
theorem RightO.two {P : Int} {l : List Spn} (h : RightO P l) {a b : Spn} (ha : a ∈ l) (hb : b ∈ l) (hne : a ≠ b) : FitO a b := by
  obtain ⟨i, hi, rfl⟩ := mem_pa ha
  obtain ⟨j, hj, rfl⟩ := mem_pa hb
  have hf := List.pairwise_iff_getElem.1 h.fit
  have e : ∀ k (hk : k < l.length), pa l k = l[k] := fun k hk => by simp [pa, List.getD, hk]
  rcases Nat.lt_trichotomy i j with hij | hij | hij
  · rw [e i hi, e j hj]; exact hf i j hi hj hij
  · subst hij; exact (hne rfl).elim
  · rw [e i hi, e j hj]; exact (hf j i hj hi hij).symm
theorem RightO.take {P : Int} {l : List Spn} (h : RightO P l) (k : Nat) : RightO P (l.take k) := ⟨h.rng, fun o ho => h.lie o (List.mem_of_mem_take ho), h.fit.sublist (List.take_sublist k l)⟩
/-- No two are at one place. -/
theorem RightO.ne {P : Int} {l : List Spn} (h : RightO P l) {i j : Nat} (hi : i < l.length) (hj : j < l.length) (hij : i ≠ j) : FitO (pa l i) (pa l j) := by
  have hf := List.pairwise_iff_getElem.1 h.fit
  have e : ∀ k (hk : k < l.length), pa l k = l[k] := fun k hk => by simp [pa, List.getD, hk]
  rcases Nat.lt_trichotomy i j with h1 | h1 | h1
  · rw [e i hi, e j hj]; exact hf i j hi hj h1
  · exact (hij h1).elim
  · rw [e i hi, e j hj]; exact (hf j i hj hi h1).symm

/-- The kind of a page: -1 of one that is nobody's. -/
def kdL (l : List Spn) (p : Int) : Int := match l.find? (fun o => decide (HasC o p)) with
  | some o => kdO o p
  | none => -1
theorem kdL_free {l : List Spn} {p : Int} (h : ∀ o ∈ l, ¬ HasC o p) : kdL l p = -1 := by
  unfold kdL
  rw [List.find?_eq_none.2 (fun o ho => by simpa using h o ho)]
theorem kdL_find {l : List Spn} {p : Int} (h : kdL l p ≠ -1) : ∃ o ∈ l, HasC o p ∧ kdL l p = kdO o p := by
  unfold kdL at h ⊢
  cases e : l.find? (fun o => decide (HasC o p)) with
  | none => rw [e] at h; exact (h rfl).elim
  | some o => exact ⟨o, List.mem_of_find?_eq_some e, by simpa using List.find?_some e, rfl⟩
theorem kdL_has {P : Int} {l : List Spn} (h : RightO P l) {o : Spn} (ho : o ∈ l) {p : Int} (hp : HasC o p) : kdL l p = kdO o p := by
  unfold kdL
  cases e : l.find? (fun o => decide (HasC o p)) with
  | none => exact ((List.find?_eq_none.1 e o ho) (by simpa using hp)).elim
  | some a =>
    have ha := List.mem_of_find?_eq_some e
    have hap : HasC a p := by simpa using List.find?_some e
    by_cases hao : a = o
    · rw [hao]
    · obtain ⟨s1, s2, s3⟩ := (h.two ha ho hao).share hap hp
      show kdO a p = kdO o p
      rw [kdO_small s1, kdO_small s2, s3]
theorem kdL_neg {P : Int} {l : List Spn} (h : RightO P l) {p : Int} : kdL l p = -1 ↔ ∀ o ∈ l, ¬ HasC o p := by
  refine ⟨fun e o ho hp => ?_, kdL_free⟩
  rw [kdL_has h ho hp] at e
  have := kdO_nn o p
  omega
theorem kdL_rg (l : List Spn) (p : Int) : -1 ≤ kdL l p ∧ kdL l p ≤ 7 := by
  by_cases h : kdL l p = -1
  · omega
  · obtain ⟨o, _, _, e⟩ := kdL_find h
    have := kdO_nn o p
    omega
theorem kdL_snoc {P : Int} {l : List Spn} {o : Spn} (h : RightO P (l ++ [o])) (p : Int) : kdL (l ++ [o]) p = if HasC o p then kdO o p else kdL l p := by
  obtain ⟨hl, ho, hf⟩ := rightO_snoc.1 h
  by_cases hp : HasC o p
  · rw [if_pos hp]
    exact kdL_has h (by simp) hp
  · rw [if_neg hp]
    by_cases e : kdL l p = -1
    · rw [e]
      exact kdL_free (fun x hx => by
        rcases List.mem_append.1 hx with hx | hx
        · exact (kdL_neg hl).1 e x hx
        · rw [List.mem_singleton.1 hx]; exact hp)
    · obtain ⟨x, hx, hxp, e2⟩ := kdL_find e
      rw [e2]
      exact kdL_has h (List.mem_append.2 (Or.inl hx)) hxp
/-- What a small one asks of those that are there. -/
theorem fit_small {P : Int} {l : List Spn} {o : Spn} (h : RightO P l) (hs : o.sz ≤ 120) :
    (∀ a ∈ l, FitO a o) ↔ ((kdL l (pgA o) = -1 ∨ kdL l (pgA o) = clN o.sz) ∧ ∀ a ∈ l, a.pos ≠ o.pos) := by
  have hp : HasC o (pgA o) := ⟨Int.le_refl _, by rw [pgK_small hs]; omega⟩
  constructor
  · intro hf
    refine ⟨?_, fun a ha => (hf a ha).1⟩
    by_cases e : kdL l (pgA o) = -1
    · exact Or.inl e
    · obtain ⟨a, ha, hap, e2⟩ := kdL_find e
      obtain ⟨s1, s2, s3⟩ := (hf a ha).share hap hp
      right
      rw [e2, kdO_small s1, s3]
  · rintro ⟨hk, hn⟩ a ha
    refine ⟨hn a ha, ?_⟩
    by_cases h1 : pgA a + pgK a ≤ pgA o
    · exact Or.inl h1
    by_cases h2 : pgA o + pgK o ≤ pgA a
    · exact Or.inr (Or.inl h2)
    rw [pgK_small hs] at h2
    have hap : HasC a (pgA o) := ⟨by omega, by omega⟩
    have e := kdL_has h ha hap
    have nn := kdO_nn a (pgA o)
    have hc := clN_lt o.sz
    have hlt : kdO a (pgA o) < 6 := by omega
    have hsa := kdO_lt.1 hlt
    rw [kdO_small hsa] at e nn
    exact Or.inr (Or.inr ⟨hsa, hs, by omega⟩)
theorem fit_large {P : Int} {l : List Spn} {o : Spn} (h : RightO P l) (ho : InC P o) (hs : ¬ o.sz ≤ 120) :
    (∀ a ∈ l, FitO a o) ↔ ∀ p, HasC o p → kdL l p = -1 := by
  constructor
  · intro hf p hp
    refine (kdL_neg h).2 fun a ha hap => ?_
    exact hs ((hf a ha).share hap hp).2.1
  · intro hk a ha
    have hA := (h.lie a ha).pgk
    have hO := ho.pgk
    have dis : ∀ p, HasC o p → ¬ HasC a p := fun p hp => (kdL_neg h).1 (hk p hp) a ha
    have d1 := dis (pgA o) ho.first
    have d2 : ¬ HasC o (pgA a) := fun hx => dis _ hx (h.lie a ha).first
    unfold HasC at d1 d2
    refine ⟨fun e => ?_, ?_⟩
    · have : pgA a = pgA o := by unfold pgA; rw [e]
      omega
    · omega
/-- The kinds of all pages; none, if the objects are not right. -/
def kzN (P : Int) (l : List Spn) : List Int := (List.range P.toNat).map (fun p => kdL l (p : Nat))
def kzL (P : Int) (l : List Spn) : List Int := if RightO P l then kzN P l else []
def rtO (P : Int) (l : List Spn) : Bool := decide (RightO P l)
theorem kz_t {P : Int} {l : List Spn} (h : RightO P l) : kzL P l = kzN P l ∧ rtO P l = true := ⟨if_pos h, decide_eq_true h⟩
theorem kz_f {P : Int} {l : List Spn} (h : ¬ RightO P l) : kzL P l = [] ∧ rtO P l = false := ⟨if_neg h, decide_eq_false h⟩
theorem kzN_len (P : Int) (l : List Spn) : (kzN P l).length = P.toNat := by simp [kzN]
theorem kzN_at {P : Int} {l : List Spn} {i : Nat} (h : i < P.toNat) (d : Int) : (kzN P l).getD i d = kdL l i := by simp [kzN, List.getD, h]
theorem RightO.small {P : Int} {l : List Spn} (h : RightO P l) {o : Spn} (hs : o.sz ≤ 120) : RightO P (l ++ [o]) ↔ InC P o ∧ (kdL l (pgA o) = -1 ∨ kdL l (pgA o) = clN o.sz) ∧ ∀ a ∈ l, a.pos ≠ o.pos := by
  rw [rightO_snoc, fit_small h hs]
  exact ⟨fun x => x.2, fun x => ⟨h, x⟩⟩
theorem RightO.large {P : Int} {l : List Spn} (h : RightO P l) {o : Spn} (hs : ¬ o.sz ≤ 120) : RightO P (l ++ [o]) ↔ InC P o ∧ ∀ p, HasC o p → kdL l p = -1 := by
  rw [rightO_snoc]
  exact ⟨fun x => ⟨x.2.1, (fit_large h x.2.1 hs).1 x.2.2⟩, fun x => ⟨h, x.1, (fit_large h x.1 hs).2 x.2⟩⟩
end Go.Proofs.Ythkloknongkpdaa
/- Rows of free pages in plain words, and the one that fits best. -/
namespace Go.Proofs.Ythkloknongkpdaa
set_option maxRecDepth 100000
set_option linter.unusedVariables false
set_option linter.unusedSimpArgs false

/-- The kind at a place (0 beyond the end: not free). -/
def ka (ks : List Int) (i : Nat) : Int := ks.getD i 0
/-- How many free ones stand from a place on. -/
def rlN (ks : List Int) (i : Nat) : Nat := ((ks.drop i).takeWhile (fun k => k == -1)).length
theorem ka_past {ks : List Int} {i : Nat} (h : ks.length ≤ i) : ka ks i = 0 := by simp [ka, List.getD, List.getElem?_eq_none h]
theorem ka_lt {ks : List Int} {i : Nat} (h : ka ks i = -1) : i < ks.length := by
  apply Decidable.byContradiction
  intro hn
  rw [ka_past (by omega)] at h
  omega
theorem drop_ka {ks : List Int} {i : Nat} (h : i < ks.length) : ks.drop i = ka ks i :: ks.drop (i + 1) := by
  rw [List.drop_eq_getElem_cons h]
  simp [ka, List.getD, h]
theorem rl_free {ks : List Int} {i : Nat} (h : ka ks i = -1) : rlN ks i = rlN ks (i + 1) + 1 := by
  unfold rlN
  rw [drop_ka (ka_lt h), h]
  simp
theorem rl_not {ks : List Int} {i : Nat} (h : ka ks i ≠ -1) : rlN ks i = 0 := by
  unfold rlN
  by_cases hl : i < ks.length
  · rw [drop_ka hl, List.takeWhile_cons_of_neg (by simpa using h)]
    rfl
  · rw [List.drop_eq_nil_of_le (by omega)]
    rfl
theorem rl_in {ks : List Int} : ∀ {j i : Nat}, j < rlN ks i → ka ks (i + j) = -1 := by
  intro j
  induction j with
  | zero =>
    intro i h
    apply Decidable.byContradiction
    intro hn
    rw [Nat.add_zero] at hn
    rw [rl_not hn] at h
    omega
  | succ j ih =>
    intro i h
    by_cases h0 : ka ks i = -1
    · rw [rl_free h0] at h
      have := ih (i := i + 1) (by omega)
      rw [show i + (j + 1) = i + 1 + j by omega]
      exact this
    · rw [rl_not h0] at h; omega
theorem rl_end {ks : List Int} : ∀ {n i : Nat}, rlN ks i = n → ka ks (i + n) ≠ -1 := by
  intro n
  induction n with
  | zero =>
    intro i h e
    rw [Nat.add_zero] at e
    rw [rl_free e] at h
    omega
  | succ n ih =>
    intro i h
    have h0 : ka ks i = -1 := by
      have := rl_in (ks := ks) (j := 0) (i := i) (by omega)
      exact this
    rw [rl_free h0] at h
    have := ih (i := i + 1) (by omega)
    rw [show i + (n + 1) = i + 1 + n by omega]
    exact this
theorem rl_le {ks : List Int} {i : Nat} (h : i ≤ ks.length) : i + rlN ks i ≤ ks.length := by
  unfold rlN
  have h1 : ((ks.drop i).takeWhile (fun k => k == -1)).length ≤ (ks.drop i).length := (List.takeWhile_sublist _).length_le
  rw [List.length_drop] at h1
  omega
/-- A row of n free ones from i on, and no more, has n. -/
theorem rl_eq {ks : List Int} {i n : Nat} (h : ∀ j, j < n → ka ks (i + j) = -1) (he : ka ks (i + n) ≠ -1) : rlN ks i = n := by
  rcases Nat.lt_trichotomy (rlN ks i) n with h1 | h1 | h1
  · exact (rl_end (n := rlN ks i) rfl (h _ h1)).elim
  · exact h1
  · exact (he (rl_in h1)).elim
/-- Does a longest row begin there? -/
def StR (ks : List Int) (i : Nat) : Prop := ka ks i = -1 ∧ (i = 0 ∨ ka ks (i - 1) ≠ -1)
instance (ks : List Int) (i : Nat) : Decidable (StR ks i) := by unfold StR; exact inferInstance
def rowF (ks : List Int) (i : Nat) : Spn := ⟨i, rlN ks i⟩
/-- The longest rows that begin below k. -/
def rnK (ks : List Int) (k : Nat) : List Spn := ((List.range k).filter (fun i => decide (StR ks i))).map (rowF ks)
def rnL (ks : List Int) : List Spn := rnK ks ks.length
theorem rn_zero (ks : List Int) : rnK ks 0 = [] := rfl
theorem rn_at {ks : List Int} {k : Nat} (h : StR ks k) : rnK ks (k + 1) = rnK ks k ++ [⟨k, rlN ks k⟩] := by
  unfold rnK
  rw [List.range_succ, List.filter_append, List.filter_cons_of_pos (by simpa using h)]
  simp [rowF]
theorem rn_skip {ks : List Int} {k : Nat} (h : ¬ StR ks k) : rnK ks (k + 1) = rnK ks k := by
  unfold rnK
  rw [List.range_succ, List.filter_append, List.filter_cons_of_neg (by simpa using h)]
  simp
theorem rn_skips {ks : List Int} {k : Nat} : ∀ {m : Nat}, (∀ i, k ≤ i → i < k + m → ¬ StR ks i) → rnK ks (k + m) = rnK ks k := by
  intro m
  induction m with
  | zero => intro _; rfl
  | succ m ih =>
    intro h
    rw [show k + (m + 1) = (k + m) + 1 by omega, rn_skip (h (k + m) (by omega) (by omega))]
    exact ih (fun i h1 h2 => h i h1 (by omega))
/-- Behind a row, and the page that ends it. -/
theorem rn_over {ks : List Int} {k : Nat} (h : StR ks k) : rnK ks (k + rlN ks k + 1) = rnK ks k ++ [⟨k, rlN ks k⟩] := by
  have h1 : 1 ≤ rlN ks k := by rw [rl_free h.1]; omega
  rw [← rn_at h, show k + rlN ks k + 1 = (k + 1) + rlN ks k by omega]
  refine rn_skips (fun i h2 h3 => ?_)
  rintro ⟨a, b⟩
  rcases b with b | b
  · omega
  · refine b ?_
    have := rl_in (ks := ks) (i := k) (j := i - 1 - k) (by
      by_cases hh : i = k + rlN ks k
      · exact (rl_end rfl (hh ▸ a)).elim
      · omega)
    rw [show k + (i - 1 - k) = i - 1 by omega] at this
    exact this
theorem rn_past {ks : List Int} {k : Nat} (h : ks.length ≤ k) : rnK ks k = rnL ks := by
  obtain ⟨m, rfl⟩ : ∃ m, k = ks.length + m := ⟨k - ks.length, by omega⟩
  exact rn_skips (fun i h1 h2 hs => by have := ka_lt hs.1; omega)
theorem rn_mem {ks : List Int} {k : Nat} {s : Spn} : s ∈ rnK ks k ↔ ∃ i, i < k ∧ StR ks i ∧ s = ⟨i, rlN ks i⟩ := by
  unfold rnK
  simp only [List.mem_map, List.mem_filter, List.mem_range, decide_eq_true_eq]
  constructor
  · rintro ⟨i, ⟨h1, h2⟩, rfl⟩; exact ⟨i, h1, h2, rfl⟩
  · rintro ⟨i, h1, h2, rfl⟩; exact ⟨i, ⟨h1, h2⟩, rfl⟩
theorem rn_len (ks : List Int) (k : Nat) : (rnK ks k).length ≤ k := by
  unfold rnK
  rw [List.length_map]
  exact Nat.le_trans (List.length_filter_le _ _) (by simp)
theorem rn_rise (ks : List Int) (k : Nat) : (rnK ks k).Pairwise (fun a b => a.pos < b.pos) := by
  unfold rnK
  rw [List.pairwise_map]
  refine List.Pairwise.imp ?_ ((List.pairwise_lt_range (n := k)).filter _)
  intro a b h
  show (a : Int) < (b : Int)
  omega
theorem rn_order {ks : List Int} {k i j : Nat} (hi : i < j) (hj : j < (rnK ks k).length) : (pa (rnK ks k) i).pos < (pa (rnK ks k) j).pos := by
  have h := List.pairwise_iff_getElem.1 (rn_rise ks k) i j (by omega) hj hi
  simpa [pa, List.getD, hj, Nat.lt_trans hi hj] using h
theorem rn_same {ks : List Int} {k i j : Nat} (hi : i < (rnK ks k).length) (hj : j < (rnK ks k).length) (he : (pa (rnK ks k) i).pos = (pa (rnK ks k) j).pos) : i = j := by
  rcases Nat.lt_trichotomy i j with h | h | h
  · have := rn_order h hj; omega
  · exact h
  · have := rn_order h hi; omega
/-- Each free page lies in a row. -/
theorem rn_cover {ks : List Int} : ∀ {i : Nat}, ka ks i = -1 → ∃ j, j ≤ i ∧ StR ks j ∧ i < j + rlN ks j := by
  intro i
  induction i with
  | zero => intro h; exact ⟨0, Nat.le_refl _, ⟨h, Or.inl rfl⟩, by rw [rl_free h]; omega⟩
  | succ i ih =>
    intro h
    by_cases hp : ka ks i = -1
    · obtain ⟨j, h1, h2, h3⟩ := ih hp
      refine ⟨j, by omega, h2, ?_⟩
      apply Decidable.byContradiction
      intro hn
      have e := rl_end (ks := ks) (i := j) (n := rlN ks j) rfl
      rw [show j + rlN ks j = i + 1 by omega] at e
      exact e h
    · exact ⟨i + 1, Nat.le_refl _, ⟨h, Or.inr (by simpa using hp)⟩, by rw [rl_free h]; omega⟩
/-- Free ones side by side lie in one row. -/
theorem rn_hold {ks : List Int} {i m : Nat} (hm : 1 ≤ m) (h : ∀ j, j < m → ka ks (i + j) = -1) : ∃ s ∈ rnL ks, s.pos ≤ i ∧ (i : Int) + m ≤ s.pos + s.sz := by
  obtain ⟨j, h1, h2, h3⟩ := rn_cover (h 0 (by omega))
  rw [Nat.add_zero] at h3 h1
  refine ⟨⟨j, rlN ks j⟩, rn_mem.2 ⟨j, by have := ka_lt h2.1; omega, h2, rfl⟩, by show (j : Int) ≤ i; omega, ?_⟩
  show (i : Int) + m ≤ (j : Int) + (rlN ks j : Nat)
  apply Decidable.byContradiction
  intro hn
  have e := rl_end (ks := ks) (i := j) (n := rlN ks j) rfl
  have := h (j + rlN ks j - i) (by omega)
  rw [show i + (j + rlN ks j - i) = j + rlN ks j by omega] at this
  exact e this
theorem rn_rg {ks : List Int} {k : Nat} (hl : ks.length ≤ 4294967296) : ∀ s ∈ rnK ks k, 0 ≤ s.pos ∧ 1 ≤ s.sz ∧ s.pos + s.sz ≤ ks.length := by
  intro s hs
  obtain ⟨i, h1, h2, rfl⟩ := rn_mem.1 hs
  have h3 := ka_lt h2.1
  have h4 := rl_le (ks := ks) (i := i) (by omega)
  have h5 := rl_free h2.1
  refine ⟨by show (0 : Int) ≤ (i : Nat); omega, by show (1 : Int) ≤ (rlN ks i : Nat); omega, by show (i : Int) + (rlN ks i : Nat) ≤ _; omega⟩
/-- The free ones of a row. -/
theorem rn_free {ks : List Int} {k : Nat} {s : Spn} (h : s ∈ rnK ks k) {p : Int} (h1 : s.pos ≤ p) (h2 : p < s.pos + s.sz) : ka ks p.toNat = -1 := by
  obtain ⟨i, _, h3, rfl⟩ := rn_mem.1 h
  have h1' : (i : Int) ≤ p := h1
  have h2' : p < (i : Int) + (rlN ks i : Nat) := h2
  have := rl_in (ks := ks) (i := i) (j := p.toNat - i) (by omega)
  rwa [show i + (p.toNat - i) = p.toNat by omega] at this
/-- Of rows of n at least the one with the fewest, of alike ones the first. -/
def btO (ks : List Int) (n : Int) : Option Spn := if 1 ≤ n then bsO (rnL ks) n else none
def btN (ks : List Int) (n : Int) : Int := ((btO ks n).getD Spn.z).pos
def btB (ks : List Int) (n : Int) : Bool := (btO ks n).isSome
theorem btK_f {ks : List Int} {n : Int} (h : btO ks n = none) : btN ks n = 0 ∧ btB ks n = false := by
  unfold btN btB
  rw [h]
  exact ⟨rfl, rfl⟩
theorem btK_t {ks : List Int} {n : Int} {s : Spn} (h : btO ks n = some s) : btN ks n = s.pos ∧ btB ks n = true := by
  unfold btN btB
  rw [h]
  exact ⟨rfl, rfl⟩
theorem bt_small {ks : List Int} {n : Int} (h : n < 1) : btO ks n = none := if_neg (by omega)
theorem bt_none {ks : List Int} {n : Int} (h : btO ks n = none) (hn : 1 ≤ n) : ∀ s ∈ rnL ks, s.sz < n := by
  unfold btO at h
  rw [if_pos hn] at h
  intro s hs
  obtain ⟨i, hi, rfl⟩ := mem_pa hs
  exact bs_none h i hi
theorem bt_some {ks : List Int} {n : Int} {s : Spn} (h : btO ks n = some s) : 1 ≤ n ∧ s ∈ rnL ks ∧ n ≤ s.sz ∧ ∀ r ∈ rnL ks, n ≤ r.sz → ¬ BtrP r s := by
  unfold btO at h
  by_cases hn : 1 ≤ n
  · rw [if_pos hn] at h
    obtain ⟨⟨i, hi, e⟩, h2, h3⟩ := bs_some h
    refine ⟨hn, e ▸ pa_mem hi, h2, fun r hr => ?_⟩
    obtain ⟨j, hj, rfl⟩ := mem_pa hr
    exact h3 j hj
  · rw [if_neg hn] at h
    cases h
/-- In rising rows the one that is not longer than those ahead, and of alike ones the first, is the best: by steps. -/
theorem bs_step_lt {ks : List Int} {z : Int} {K k : Nat} {b : Spn} (hk : k < (rnK ks K).length) (h2 : bsK z (rnK ks K) k = some b) : BtrP (pa (rnK ks K) k) b ↔ (pa (rnK ks K) k).sz < b.sz := by
  obtain ⟨⟨i, hi, rfl⟩, _, _⟩ := bs_some h2
  have := rn_order hi hk
  unfold BtrP
  omega
end Go.Proofs.Ythkloknongkpdaa
