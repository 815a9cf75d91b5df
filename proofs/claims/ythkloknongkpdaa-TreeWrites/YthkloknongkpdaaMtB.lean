/- TreeM · TreeN · TreeO · TreeP: these texts, one behind another. -/
import Derived.Test.YthkloknongkpdaaMtA
/- Extents of pages in plain words: which are right, which are those of kinds, how many nodes their tree has. -/
namespace Go.Proofs.Ythkloknongkpdaa
set_option maxRecDepth 100000
set_option linter.unusedVariables false
set_option linter.unusedSimpArgs false

/-- An extent (pos: its At, sz: its Size, ix: its Use) that begins at a page; f: the one ahead is free. -/
def FitX (P at' : Int) (f : Bool) (x : Blk) : Prop := x.pos = at' ∧ 1 ≤ x.sz ∧ x.sz ≤ P - at' ∧ 0 ≤ x.ix ∧ x.ix ≤ 2 ∧ (x.ix = 1 → x.sz = 1) ∧ ¬ (f = true ∧ x.ix = 0)
instance (P at' : Int) (f : Bool) (x : Blk) : Decidable (FitX P at' f x) := by unfold FitX; exact inferInstance
def frX (x : Blk) : Bool := decide (x.ix = 0)
/-- They stand one behind another, up to the last page. -/
def LayX (P : Int) : Int → Bool → List Blk → Prop
  | at', _, [] => at' = P
  | at', f, x :: r => FitX P at' f x ∧ LayX P (at' + x.sz) (frX x) r
def layXD (P : Int) : (at' : Int) → (f : Bool) → (l : List Blk) → Decidable (LayX P at' f l)
  | at', _, [] => inferInstanceAs (Decidable (at' = P))
  | at', f, x :: r => @instDecidableAnd _ _ inferInstance (layXD P (at' + x.sz) (frX x) r)
instance (P at' : Int) (f : Bool) (l : List Blk) : Decidable (LayX P at' f l) := layXD P at' f l
def RightX (P : Int) (l : List Blk) : Prop := (0 ≤ P ∧ P ≤ 64) ∧ LayX P 0 false l
instance (P : Int) (l : List Blk) : Decidable (RightX P l) := by unfold RightX; exact inferInstance
def rxB (P : Int) (l : List Blk) : Bool := decide (RightX P l)
theorem rxB_t {P : Int} {l : List Blk} (h : RightX P l) : rxB P l = true := decide_eq_true h
theorem rxB_f {P : Int} {l : List Blk} (h : ¬ RightX P l) : rxB P l = false := decide_eq_false h
theorem layX_drop {P a : Int} {f : Bool} {l : List Blk} {k : Nat} (h : k < l.length) : LayX P a f (l.drop k) ↔ FitX P a f (ba l k) ∧ LayX P (a + (ba l k).sz) (frX (ba l k)) (l.drop (k + 1)) := by
  rw [drop_ba h]; rfl
theorem layX_end {P a : Int} {f : Bool} {l : List Blk} {k : Nat} (h : ¬ k < l.length) : LayX P a f (l.drop k) ↔ a = P := by
  rw [List.drop_eq_nil_of_le (by omega)]; rfl
/-- What is known of each, by its place. -/
theorem layX_at {P : Int} {l : List Blk} : ∀ {a : Int} {f : Bool} {i : Nat}, LayX P a f l → i < l.length → a + i ≤ (ba l i).pos ∧ 1 ≤ (ba l i).sz ∧ (ba l i).pos + (ba l i).sz ≤ P ∧ 0 ≤ (ba l i).ix ∧ (ba l i).ix ≤ 2 := by
  induction l with
  | nil => intro a f i _ h; simp at h
  | cons x r ih =>
    intro a f i h hi
    obtain ⟨⟨h1, h2, h3, h4, h5, _⟩, h6⟩ := h
    cases i with
    | zero =>
      rw [ba_cons_zero]
      exact ⟨by omega, h2, by omega, h4, h5⟩
    | succ i =>
      rw [ba_cons_succ]
      have := ih h6 (show i < r.length by simpa using hi)
      exact ⟨by omega, this.2⟩
theorem layX_next {P : Int} {l : List Blk} : ∀ {a : Int} {f : Bool} {i : Nat}, LayX P a f l → i + 1 < l.length → (ba l (i + 1)).pos = (ba l i).pos + (ba l i).sz := by
  induction l with
  | nil => intro a f i _ h; simp at h
  | cons x r ih =>
    intro a f i h hi
    obtain ⟨⟨h1, h2, h3, h4, h5, _⟩, h6⟩ := h
    cases i with
    | zero =>
      rw [ba_cons_zero, ba_cons_succ]
      cases r with
      | nil => simp at hi
      | cons y t =>
        rw [ba_cons_zero]
        have := h6.1.1
        omega
    | succ i =>
      rw [ba_cons_succ, ba_cons_succ]
      exact ih h6 (by simpa using hi)
theorem layX_first {P a : Int} {f : Bool} {l : List Blk} (h : LayX P a f l) (hl : 0 < l.length) : (ba l 0).pos = a := by
  cases l with
  | nil => simp at hl
  | cons x r => exact h.1.1
theorem layX_last {P : Int} {l : List Blk} : ∀ {a : Int} {f : Bool}, LayX P a f l → 0 < l.length → (ba l (l.length - 1)).pos + (ba l (l.length - 1)).sz = P := by
  induction l with
  | nil => intro a f _ h; simp at h
  | cons x r ih =>
    intro a f h _
    obtain ⟨⟨h1, _⟩, h6⟩ := h
    cases r with
    | nil =>
      show x.pos + x.sz = P
      have : a + x.sz = P := h6
      omega
    | cons y t =>
      have := ih h6 (by simp)
      simpa [ba_cons_succ] using this
theorem RightX.len {P : Int} {l : List Blk} (h : RightX P l) : (l.length : Int) ≤ P := by
  obtain ⟨⟨h1, h2⟩, h3⟩ := h
  by_cases hl : 0 < l.length
  · have := layX_at h3 (show l.length - 1 < l.length by omega)
    omega
  · omega
theorem layX_rise {P : Int} {l : List Blk} {a : Int} {f : Bool} (h : LayX P a f l) : ∀ {i j : Nat}, i < j → j < l.length → (ba l i).pos + (ba l i).sz ≤ (ba l j).pos := by
  intro i j hij
  induction j with
  | zero => omega
  | succ j ih =>
    intro hj
    have hn := layX_next h (i := j) hj
    have hs := (layX_at h (show j < l.length by omega)).2.1
    by_cases e : i = j
    · subst e; omega
    · have := ih (by omega) (by omega)
      omega

/-- What a kind is used for. -/
def usX (x : Int) : Int := if x = -1 then 0 else if x = 6 then 2 else 1
/-- The last one made longer by a page. -/
def moreX (l : List Blk) : List Blk := match l.getLast? with
  | none => []
  | some x => l.dropLast ++ [⟨x.pos, x.sz + 1, x.ix⟩]
/-- Does the k-th kind go with the one ahead of it? -/
def JoinX (ks : List Int) (k : Nat) : Prop := 0 < k ∧ ((ka ks k = 7 ∧ (ka ks (k - 1) = 6 ∨ ka ks (k - 1) = 7)) ∨ (ka ks k = -1 ∧ ka ks (k - 1) = -1))
instance (ks : List Int) (k : Nat) : Decidable (JoinX ks k) := by unfold JoinX; exact inferInstance
/-- May the k-th kind stand there? -/
def MayX (ks : List Int) (k : Nat) : Prop := -1 ≤ ka ks k ∧ ka ks k ≤ 7 ∧ (ka ks k = 7 → JoinX ks k)
instance (ks : List Int) (k : Nat) : Decidable (MayX ks k) := by unfold MayX; exact inferInstance
/-- The extents of the first k kinds, as far as they may stand. -/
def fxK (ks : List Int) : Nat → List Blk
  | 0 => []
  | k + 1 => if JoinX ks k then moreX (fxK ks k) else fxK ks k ++ [⟨k, 1, usX (ka ks k)⟩]
def FxOk (ks : List Int) : Prop := ks.length ≤ 64 ∧ ∀ k, k < ks.length → MayX ks k
instance (ks : List Int) : Decidable (FxOk ks) := by unfold FxOk; exact inferInstance
def fxL (ks : List Int) : List Blk := if FxOk ks then fxK ks ks.length else []
def fxB (ks : List Int) : Bool := decide (FxOk ks)
theorem fx_t {ks : List Int} (h : FxOk ks) : fxL ks = fxK ks ks.length ∧ fxB ks = true := ⟨if_pos h, decide_eq_true h⟩
theorem fx_f {ks : List Int} (h : ¬ FxOk ks) : fxL ks = [] ∧ fxB ks = false := ⟨if_neg h, decide_eq_false h⟩
theorem fx_join {ks : List Int} {k : Nat} (h : JoinX ks k) : fxK ks (k + 1) = moreX (fxK ks k) := if_pos h
theorem fx_new {ks : List Int} {k : Nat} (h : ¬ JoinX ks k) : fxK ks (k + 1) = fxK ks k ++ [⟨k, 1, usX (ka ks k)⟩] := if_neg h
theorem more_snoc (l : List Blk) (x : Blk) : moreX (l ++ [x]) = l ++ [⟨x.pos, x.sz + 1, x.ix⟩] := by simp [moreX]
/-- Extents that stand one behind another from page 0 on, up to page e, the last one as told. -/
structure PreX (e : Int) (l : List Blk) : Prop where
  nil : l = [] → e = 0
  ok : LayX e 0 false l
theorem layX_snoc {P : Int} {l : List Blk} {x : Blk} : ∀ {a : Int} {f : Bool}, LayX P a f (l ++ [x]) ↔ ∃ b, LayX b a f l ∧ b ≤ P ∧ FitX P b (match l.getLast? with | none => f | some y => frX y) x ∧ b + x.sz = P := by
  induction l with
  | nil =>
    intro a f
    show FitX P a f x ∧ a + x.sz = P ↔ ∃ b, a = b ∧ _
    constructor
    · rintro ⟨h1, h2⟩
      have := h1.2.1
      exact ⟨a, rfl, by omega, h1, h2⟩
    · rintro ⟨b, rfl, _, h1, h2⟩
      exact ⟨h1, h2⟩
  | cons y t ih =>
    intro a f
    show FitX P a f y ∧ LayX P (a + y.sz) (frX y) (t ++ [x]) ↔ _
    rw [ih]
    have hlast : (match (y :: t).getLast? with | none => f | some z => frX z) = (match t.getLast? with | none => frX y | some z => frX z) := by
      cases t with
      | nil => rfl
      | cons u v =>
        rw [List.getLast?_cons_cons]
        cases e : (u :: v).getLast? with
        | none => simp at e
        | some z => rfl
    rw [hlast]
    constructor
    · rintro ⟨h1, b, h2, h3, h4, h5⟩
      refine ⟨b, ⟨?_, h2⟩, h3, h4, h5⟩
      obtain ⟨g1, g2, g3, g4⟩ := h1
      refine ⟨g1, g2, ?_, g4⟩
      have : a + y.sz ≤ b := by
        by_cases ht : 0 < t.length
        · have e1 := layX_last h2 ht
          have e2 := layX_at h2 (show t.length - 1 < t.length by omega)
          omega
        · have : t = [] := List.eq_nil_of_length_eq_zero (by omega)
          subst this
          exact Int.le_of_eq h2
      omega
    · rintro ⟨b, ⟨h1, h2⟩, h3, h4, h5⟩
      obtain ⟨g1, g2, g3, g4⟩ := h1
      exact ⟨⟨g1, g2, by omega, g4⟩, b, h2, h3, h4, h5⟩

/-- What the extents of a prefix of kinds are. -/
structure PfxX (ks : List Int) (k : Nat) : Prop where
  lay : LayX k 0 false (fxK ks k)
  nil : k = 0 ∨ ∃ l x, fxK ks k = l ++ [x] ∧ x.ix = (if ka ks (k - 1) = -1 then 0 else if ka ks (k - 1) = 6 ∨ ka ks (k - 1) = 7 then 2 else 1)
theorem pfx_all {ks : List Int} : ∀ {k : Nat}, (∀ j, j < k → MayX ks j) → PfxX ks k := by
  intro k
  induction k with
  | zero => intro _; exact ⟨rfl, Or.inl rfl⟩
  | succ k ih =>
    intro h
    obtain ⟨hl, hn⟩ := ih (fun j hj => h j (by omega))
    obtain ⟨m1, m2, m3⟩ := h k (by omega)
    by_cases hj : JoinX ks k
    · obtain ⟨k0, hj'⟩ := hj
      rcases hn with hn | ⟨l, x, e, hx⟩
      · omega
      · have e1 : fxK ks (k + 1) = l ++ [⟨x.pos, x.sz + 1, x.ix⟩] := by rw [fx_join ⟨k0, hj'⟩, e, more_snoc]
        rw [e] at hl
        obtain ⟨b, b1, b2, ⟨f1, f2, f3, f4, f5, f6, f7⟩, b4⟩ := layX_snoc.1 hl
        have hix : x.ix = 0 ∨ x.ix = 2 := by
          rcases hj' with ⟨_, h2 | h2⟩ | ⟨_, h2⟩
          · rw [h2] at hx; right; rw [hx]; decide
          · rw [h2] at hx; right; rw [hx]; decide
          · rw [h2] at hx; left; rw [hx]; decide
        refine ⟨?_, Or.inr ⟨l, _, e1, ?_⟩⟩
        · rw [e1]
          refine layX_snoc.2 ⟨b, b1, by omega, ⟨f1, by show 1 ≤ x.sz + 1; omega, by show x.sz + 1 ≤ _; omega, f4, f5, fun c => by have : x.ix = 1 := c; omega, f7⟩, by show b + (x.sz + 1) = _; omega⟩
        · show x.ix = _
          rw [show k + 1 - 1 = k by omega, hx]
          rcases hj' with ⟨h1, h2 | h2⟩ | ⟨h1, h2⟩ <;> rw [h1, h2] <;> decide
    · have e1 := fx_new hj
      have hu : usX (ka ks k) = (if ka ks k = -1 then 0 else if ka ks k = 6 ∨ ka ks k = 7 then 2 else 1) := by
        unfold usX
        by_cases c1 : ka ks k = -1
        · rw [if_pos c1, if_pos c1]
        · rw [if_neg c1, if_neg c1]
          by_cases c2 : ka ks k = 6
          · rw [if_pos c2, if_pos (Or.inl c2)]
          · have c3 : ka ks k ≠ 7 := fun c => hj (m3 c)
            rw [if_neg c2, if_neg (by omega)]
      have hur : 0 ≤ usX (ka ks k) ∧ usX (ka ks k) ≤ 2 := by unfold usX; split <;> (try split) <;> omega
      refine ⟨?_, Or.inr ⟨_, _, e1, by show usX (ka ks k) = _; rw [show k + 1 - 1 = k by omega, hu]⟩⟩
      rw [e1]
      refine layX_snoc.2 ⟨k, hl, by omega, ⟨rfl, by show (1 : Int) ≤ 1; omega, by show (1 : Int) ≤ _; omega, hur.1, hur.2, fun _ => rfl, ?_⟩, by show (k : Int) + 1 = _; omega⟩
      rintro ⟨g1, g2⟩
      have hk1 : ka ks k = -1 := by
        have : usX (ka ks k) = 0 := g2
        unfold usX at this
        by_cases c1 : ka ks k = -1
        · exact c1
        · rw [if_neg c1] at this
          split at this <;> omega
      rcases hn with hn | ⟨l, x, e, hx⟩
      · subst hn
        simp [fxK] at g1
      · rw [e] at g1
        simp [frX] at g1
        have hk2 : ka ks (k - 1) = -1 := by
          rw [g1] at hx
          by_cases c1 : ka ks (k - 1) = -1
          · exact c1
          · rw [if_neg c1] at hx
            split at hx <;> omega
        refine hj ⟨?_, Or.inr ⟨hk1, hk2⟩⟩
        apply Decidable.byContradiction
        intro hk0
        have : k = 0 := by omega
        subst this
        simp [fxK] at e
/-- Extents of kinds are right. -/
theorem fx_right {ks : List Int} (h : FxOk ks) : RightX ks.length (fxL ks) := by
  rw [(fx_t h).1]
  have := h.1
  exact ⟨⟨by omega, by omega⟩, (pfx_all h.2).lay⟩
end Go.Proofs.Ythkloknongkpdaa
/- The tree of extents in plain words: how many nodes, which words, and that it tells its extents. -/
namespace Go.Proofs.Ythkloknongkpdaa
set_option maxRecDepth 100000
set_option linter.unusedVariables false
set_option linter.unusedSimpArgs false

/-- How many nodes hold so many things. -/
def abv (n : Nat) : Nat := max 1 ((n + 6) / 7)
theorem abv_lt {n : Nat} (h : ¬ n ≤ 1) : abv n < n := by unfold abv; omega
/-- The nodes of a level of n, and of those above it. -/
def ndS (n : Nat) : Nat := if h : n ≤ 1 then n else n + ndS (abv n)
  termination_by n
  decreasing_by exact abv_lt h
theorem ndS_le {n : Nat} (h : n ≤ 1) : ndS n = n := by rw [ndS, dif_pos h]
theorem ndS_gt {n : Nat} (h : ¬ n ≤ 1) : ndS n = n + ndS (abv n) := by rw [ndS, dif_neg h]
def ntN (n : Int) : Int := if n < 0 then 0 else (ndS (abv n.toNat) : Nat)
theorem nt_neg {n : Int} (h : n < 0) : ntN n = 0 := if_pos h
theorem nt_nat (n : Nat) : ntN n = (ndS (abv n) : Nat) := by
  unfold ntN
  rw [if_neg (by omega)]
  rfl
theorem abv_step (n : Nat) : abv (n + 1) = abv n ∨ abv (n + 1) = abv n + 1 := by unfold abv; omega
theorem abv_pos (n : Nat) : 1 ≤ abv n := by unfold abv; omega
theorem ndS_mono : ∀ (m n : Nat), n ≤ m → ndS n ≤ ndS (n + 1) := by
  intro m
  induction m with
  | zero =>
    intro n h
    obtain rfl : n = 0 := by omega
    rw [ndS_le (by omega), ndS_le (by omega)]
    omega
  | succ m ih =>
    intro n h
    by_cases h1 : n ≤ 1
    · by_cases h0 : n = 0
      · subst h0; rw [ndS_le (by omega), ndS_le (by omega)]; omega
      · obtain rfl : n = 1 := by omega
        rw [ndS_le (by omega), ndS_gt (by omega)]
        omega
    · rw [ndS_gt h1, ndS_gt (n := n + 1) (by omega)]
      have hl := abv_lt h1
      rcases abv_step n with e | e
      · rw [e]; omega
      · rw [e]
        have := ih (abv n) (by omega)
        omega
theorem ndS_up : ∀ (k m : Nat), m ≤ 7 ^ k → ndS (m + 1) ≤ ndS m + k + 2 := by
  intro k
  induction k with
  | zero =>
    intro m h
    have h : m ≤ 1 := by simpa using h
    by_cases h0 : m = 0
    · subst h0; rw [ndS_le (by omega), ndS_le (by omega)]; omega
    · obtain rfl : m = 1 := by omega
      rw [ndS_gt (n := 1 + 1) (by omega), ndS_le (n := 1) (by omega)]
      have : abv (1 + 1) = 1 := by decide
      rw [this, ndS_le (by omega)]
      omega
  | succ k ih =>
    intro m h
    by_cases h1 : m ≤ 1
    · by_cases h0 : m = 0
      · subst h0; rw [ndS_le (by omega), ndS_le (by omega)]; omega
      · obtain rfl : m = 1 := by omega
        rw [ndS_gt (n := 1 + 1) (by omega), ndS_le (n := 1) (by omega)]
        have : abv (1 + 1) = 1 := by decide
        rw [this, ndS_le (by omega)]
        omega
    · rw [ndS_gt h1, ndS_gt (n := m + 1) (by omega)]
      rcases abv_step m with e | e
      · rw [e]; omega
      · rw [e]
        have hm : abv m ≤ 7 ^ k := by
          rw [Nat.pow_succ] at h
          have := Nat.one_le_pow k 7 (by omega)
          unfold abv
          omega
        have := ih (abv m) hm
        omega
/-- Counts rise slowly. -/
theorem nt_counts {n : Int} (h0 : 0 ≤ n) (h1 : n ≤ 1099511627776) : 1 ≤ ntN n ∧ ntN n ≤ ntN (n + 1) ∧ ntN (n + 1) ≤ ntN n + 20 := by
  obtain ⟨m, rfl⟩ : ∃ m : Nat, n = m := ⟨n.toNat, by omega⟩
  rw [show ((m : Int) + 1) = ((m + 1 : Nat) : Int) by omega, nt_nat, nt_nat]
  have p := abv_pos m
  have hge : 1 ≤ ndS (abv m) := by
    by_cases c : abv m ≤ 1
    · rw [ndS_le c]; omega
    · rw [ndS_gt c]; omega
  have hb : abv m ≤ 7 ^ 14 := by unfold abv; omega
  rcases abv_step m with e | e
  · rw [e]; omega
  · rw [e]
    have h2 := ndS_mono (abv m) (abv m) (Nat.le_refl _)
    have h3 := ndS_up 14 (abv m) hb
    omega
theorem nt_small {n : Nat} (h : n ≤ 64) : ndS (abv n) ≤ 13 := by
  have : ∀ k, k < 65 → ndS (abv k) ≤ 13 := by
    intro k hk
    have ha : abv k ≤ 10 := by unfold abv; omega
    have hp := abv_pos k
    by_cases c : abv k ≤ 1
    · rw [ndS_le c]; omega
    · rw [ndS_gt c]
      have hb : abv (abv k) ≤ 2 := by unfold abv at ha ⊢; omega
      by_cases c2 : abv (abv k) ≤ 1
      · rw [ndS_le c2]; omega
      · rw [ndS_gt c2]
        have : abv (abv (abv k)) = 1 := by
          have : abv (abv k) = 2 := by omega
          rw [this]; decide
        rw [this, ndS_le (by omega)]
        omega
  exact this n (by omega)

/-- Sixteen words. -/
def p16 (ws : List Int) : List Int := ws ++ List.replicate (16 - ws.length) 0
theorem p16_len {ws : List Int} (h : ws.length ≤ 16) : (p16 ws).length = 16 := by simp [p16]; omega
theorem p16_at {ws : List Int} (k : Nat) : (p16 ws).getD k 0 = ws.getD k 0 := by
  unfold p16
  by_cases h : k < ws.length
  · simp [List.getD, List.getElem?_append_left h]
  · simp only [List.getD]
    rw [List.getElem?_append_right (by omega), List.getElem?_eq_none (l := ws) (by omega)]
    rw [List.getElem?_replicate]
    split <;> rfl
/-- Pairs, one behind another. -/
def prL (ps : List (Int × Int)) : List Int := ps.flatMap (fun p => [p.1, p.2])
theorem prL_len (ps : List (Int × Int)) : (prL ps).length = 2 * ps.length := by
  induction ps with
  | nil => rfl
  | cons p r ih => simp only [prL, List.flatMap_cons, List.length_append, List.length_cons, List.length_nil] at ih ⊢; omega
theorem prL_at (ps : List (Int × Int)) : ∀ k, k < ps.length → (prL ps).getD (2 * k) 0 = (ps.getD k (0, 0)).1 ∧ (prL ps).getD (2 * k + 1) 0 = (ps.getD k (0, 0)).2 := by
  induction ps with
  | nil => intro k h; simp at h
  | cons p r ih =>
    intro k h
    cases k with
    | zero => exact ⟨rfl, rfl⟩
    | succ k =>
      have := ih k (by simpa using h)
      exact ⟨this.1, this.2⟩
/-- A node's words: its pairs, and whether it is a leaf. -/
def nodL (leaf : Bool) (ps : List (Int × Int)) : List Int := p16 ((2 * ps.length + (if leaf then 1 else 0) : Int) :: prL ps)
theorem nwL_len {leaf : Bool} {ps : List (Int × Int)} (h : ps.length ≤ 7) : (nodL leaf ps).length = 16 := p16_len (by rw [List.length_cons, prL_len]; omega)
theorem nwL_head (leaf : Bool) (ps : List (Int × Int)) : (nodL leaf ps).getD 0 0 = 2 * ps.length + (if leaf then 1 else 0) := by unfold nodL; rw [p16_at]; rfl
theorem nwL_pair (leaf : Bool) (ps : List (Int × Int)) {k : Nat} (hk : k < ps.length) : (nodL leaf ps).getD (1 + 2 * k) 0 = (ps.getD k (0, 0)).1 ∧ (nodL leaf ps).getD (2 + 2 * k) 0 = (ps.getD k (0, 0)).2 := by
  have h := prL_at ps k hk
  unfold nodL
  rw [p16_at, p16_at, show 1 + 2 * k = 2 * k + 1 by omega, show 2 + 2 * k = (2 * k + 1) + 1 by omega]
  exact ⟨h.1, h.2⟩
/-- An extent as a pair. -/
def xpP (x : Blk) : Int × Int := (x.pos, 4 * x.sz + x.ix)
/-- What a node's words tell as a leaf's. -/
def dcN (g : Nat → Int) : List Blk := if g 0 % 2 = 1 then (List.range (min (g 0 / 2).toNat 7)).map (fun k => ⟨g (1 + 2 * k), g (2 + 2 * k) / 4, g (2 + 2 * k) % 4⟩) else []
theorem dc_leaf {xs : List Blk} (hl : xs.length ≤ 7) (hx : ∀ x ∈ xs, 0 ≤ x.ix ∧ x.ix ≤ 2) : dcN (fun k => (nodL true (xs.map xpP)).getD k 0) = xs := by
  unfold dcN
  have hlen : (xs.map xpP).length = xs.length := by simp
  have h0 : (nodL true (xs.map xpP)).getD 0 0 = 2 * xs.length + 1 := by rw [nwL_head, hlen]; rfl
  simp only [h0]
  rw [if_pos (by omega), show (min ((2 * (xs.length : Int) + 1) / 2).toNat 7) = xs.length by omega]
  refine ext_ba (by simp) fun i hi => ?_
  have hi' : i < xs.length := by simpa using hi
  obtain ⟨e1, e2⟩ := nwL_pair true (xs.map xpP) (k := i) (by omega)
  have e3 : (xs.map xpP).getD i (0, 0) = xpP (ba xs i) := by simp [List.getD, ba, hi']
  have e4 : ba ((List.range xs.length).map (fun k => (⟨(nodL true (xs.map xpP)).getD (1 + 2 * k) 0, (nodL true (xs.map xpP)).getD (2 + 2 * k) 0 / 4, (nodL true (xs.map xpP)).getD (2 + 2 * k) 0 % 4⟩ : Blk))) i = ⟨(nodL true (xs.map xpP)).getD (1 + 2 * i) 0, (nodL true (xs.map xpP)).getD (2 + 2 * i) 0 / 4, (nodL true (xs.map xpP)).getD (2 + 2 * i) 0 % 4⟩ := by simp [ba, List.getD, hi']
  rw [e4, e1, e2, e3]
  have := hx _ (ba_mem hi')
  refine Blk.ext' rfl ?_ ?_
  · show (4 * (ba xs i).sz + (ba xs i).ix) / 4 = _; omega
  · show (4 * (ba xs i).sz + (ba xs i).ix) % 4 = _; omega
theorem dc_inner (ps : List (Int × Int)) : dcN (fun k => (nodL false ps).getD k 0) = [] := by
  unfold dcN
  simp only [nwL_head]
  rw [if_neg]
  simp
theorem dc_none {g : Nat → Int} (h : g 0 = 0) : dcN g = [] := by unfold dcN; rw [h]; rfl

/-- The nodes of a level (0: the leaves). -/
def lvC (n : Nat) : Nat → Nat
  | 0 => abv n
  | j + 1 => abv (lvC n j)
/-- The level of the root, of at most 343 extents. -/
def hgt (n : Nat) : Nat := if abv n ≤ 1 then 0 else if abv (abv n) ≤ 1 then 1 else 2
/-- The number of the first node of the level below j. -/
def lvB (n j : Nat) : Nat := if hgt n = 2 then (if j = 2 then 1 else 1 + lvC n 1) else 1
/-- A node's pairs. -/
def psN (l : List Blk) : Nat → Nat → List (Int × Int)
  | 0, i => ((l.drop (7 * i)).take 7).map xpP
  | j + 1, i => (List.range (min 7 (lvC l.length j - 7 * i))).map (fun k => ((ba l (7 ^ (j + 1) * (7 * i + k))).pos, ((lvB l.length (j + 1) + (7 * i + k) : Nat) : Int)))
def ndW (l : List Blk) (j i : Nat) : List Int := nodL (j == 0) (psN l j i)
def lvW (l : List Blk) (j : Nat) : List (List Int) := (List.range (lvC l.length j)).map (ndW l j)
/-- All nodes, the root first. -/
def trL (l : List Blk) : List (List Int) := if hgt l.length = 0 then lvW l 0 else if hgt l.length = 1 then lvW l 1 ++ lvW l 0 else lvW l 2 ++ (lvW l 1 ++ lvW l 0)
theorem psN_le (l : List Blk) (j i : Nat) : (psN l j i).length ≤ 7 := by
  cases j with
  | zero => simp [psN]; omega
  | succ j => simp [psN]; omega
theorem ndW_len (l : List Blk) (j i : Nat) : (ndW l j i).length = 16 := nwL_len (psN_le l j i)
theorem lvW_all (l : List Blk) (j : Nat) : ∀ ws ∈ lvW l j, ws.length = 16 := fun ws h => by
  simp only [lvW, List.mem_map] at h
  obtain ⟨i, _, rfl⟩ := h
  exact ndW_len l j i
theorem trL_all (l : List Blk) : ∀ ws ∈ trL l, ws.length = 16 := fun ws h => by
  unfold trL at h
  split at h
  · exact lvW_all l 0 ws h
  · split at h
    · rcases List.mem_append.1 h with h | h
      · exact lvW_all l 1 ws h
      · exact lvW_all l 0 ws h
    · rcases List.mem_append.1 h with h | h
      · exact lvW_all l 2 ws h
      · rcases List.mem_append.1 h with h | h
        · exact lvW_all l 1 ws h
        · exact lvW_all l 0 ws h
theorem lvW_len (l : List Blk) (j : Nat) : (lvW l j).length = lvC l.length j := by simp [lvW]
theorem trL_len {l : List Blk} (h : l.length ≤ 343) : (trL l).length = ndS (abv l.length) := by
  unfold trL hgt
  by_cases c : abv l.length ≤ 1
  · rw [if_pos c, if_pos rfl, lvW_len, ndS_le c]; rfl
  · rw [if_neg c]
    by_cases c2 : abv (abv l.length) ≤ 1
    · rw [if_pos c2, if_neg (by omega), if_pos rfl, List.length_append, lvW_len, lvW_len, ndS_gt c, ndS_le c2]
      show abv (abv l.length) + abv l.length = _
      omega
    · rw [if_neg c2, if_neg (by omega), if_neg (by omega), List.length_append, List.length_append, lvW_len, lvW_len, lvW_len, ndS_gt c, ndS_gt c2]
      have h1 : abv l.length ≤ 49 := by unfold abv; omega
      have h2 : abv (abv l.length) ≤ 7 := by unfold abv at h1 ⊢; omega
      have h3 : abv (abv (abv l.length)) = 1 := by unfold abv at h2 ⊢; omega
      show abv (abv (abv l.length)) + (abv (abv l.length) + abv l.length) = _
      rw [h3, ndS_le (by omega)]
      omega
/-- The leaves tell all. -/
theorem chunks (l : List Blk) : ∀ m, (List.range m).flatMap (fun i => (l.drop (7 * i)).take 7) = l.take (7 * m) := by
  intro m
  induction m with
  | zero => simp
  | succ m ih =>
    rw [List.range_succ, List.flatMap_append, ih]
    simp only [List.flatMap_cons, List.flatMap_nil, List.append_nil]
    rw [show 7 * (m + 1) = 7 * m + 7 by omega, List.take_add]
def dcW (ws : List Int) : List Blk := dcN (fun k => ws.getD k 0)
theorem dc_lv0 {l : List Blk} (hx : ∀ x ∈ l, 0 ≤ x.ix ∧ x.ix ≤ 2) : (lvW l 0).flatMap dcW = l := by
  unfold lvW
  rw [List.flatMap_map]
  have e : ∀ i, dcW (ndW l 0 i) = (l.drop (7 * i)).take 7 := fun i => by
    show dcN (fun k => (nodL true (((l.drop (7 * i)).take 7).map xpP)).getD k 0) = _
    exact dc_leaf (by simp; omega) (fun x hx' => hx x (List.mem_of_mem_drop (List.mem_of_mem_take hx')))
  simp only [e]
  rw [chunks, List.take_of_length_le]
  show l.length ≤ 7 * abv l.length
  unfold abv
  omega
theorem dc_lvS (l : List Blk) (j : Nat) : (lvW l (j + 1)).flatMap dcW = [] := by
  unfold lvW
  rw [List.flatMap_map]
  have e : ∀ i, dcW (ndW l (j + 1) i) = [] := fun i => dc_inner (psN l (j + 1) i)
  simp only [e]
  induction (List.range (lvC l.length (j + 1))) with
  | nil => rfl
  | cons a r ih => simp
theorem dc_tree {l : List Blk} (hx : ∀ x ∈ l, 0 ≤ x.ix ∧ x.ix ≤ 2) : (trL l).flatMap dcW = l := by
  unfold trL
  split
  · exact dc_lv0 hx
  · split
    · rw [List.flatMap_append, dc_lvS, dc_lv0 hx]; rfl
    · rw [List.flatMap_append, List.flatMap_append, dc_lvS, dc_lvS, dc_lv0 hx]; rfl
end Go.Proofs.Ythkloknongkpdaa
/- A tree of extents in bytes, in plain words: written, read, found in, gone down. -/
namespace Go.Proofs.Ythkloknongkpdaa
set_option maxRecDepth 100000
set_option linter.unusedVariables false
set_option linter.unusedSimpArgs false

/-- The words of so many nodes: those of the tree, words 0 behind. -/
def trW (room : Nat) (l : List Blk) : List Int := (trL l).flatten ++ List.replicate (16 * (room - (trL l).length)) 0
theorem flat16_len {ws : List (List Int)} (h : ∀ w ∈ ws, w.length = 16) : ws.flatten.length = 16 * ws.length := by
  induction ws with
  | nil => rfl
  | cons a r ih =>
    rw [List.flatten_cons, List.length_append, h a (by simp), ih (fun w hw => h w (by simp [hw])), List.length_cons]
    omega
theorem flat_at {ws : List (List Int)} (h : ∀ w ∈ ws, w.length = 16) : ∀ {i k : Nat}, i < ws.length → k < 16 → ws.flatten.getD (16 * i + k) 0 = (ws.getD i []).getD k 0 := by
  induction ws with
  | nil => intro i k hi; simp at hi
  | cons a r ih =>
    intro i k hi hk
    have ha := h a (by simp)
    cases i with
    | zero =>
      simp only [List.getD, List.flatten_cons]
      rw [List.getElem?_append_left (by omega)]
      simp
    | succ i =>
      have := ih (fun w hw => h w (by simp [hw])) (i := i) (k := k) (by simpa using hi) hk
      simp only [List.getD, List.flatten_cons] at this ⊢
      rw [List.getElem?_append_right (by omega), ha, show 16 * (i + 1) + k - 16 = 16 * i + k by omega, this]
      simp
theorem trW_len {room : Nat} {l : List Blk} (h : (trL l).length ≤ room) : (trW room l).length = 16 * room := by
  unfold trW
  rw [List.length_append, flat16_len (trL_all l), List.length_replicate]
  omega
theorem trW_node {room : Nat} {l : List Blk} {i k : Nat} (hi : i < (trL l).length) (hk : k < 16) : (trW room l).getD (16 * i + k) 0 = ((trL l).getD i []).getD k 0 := by
  rw [← flat_at (trL_all l) hi hk]
  unfold trW
  have := flat16_len (trL_all l)
  simp only [List.getD]
  rw [List.getElem?_append_left (by omega)]
theorem trW_zero {room : Nat} {l : List Blk} {p : Nat} (h : 16 * (trL l).length ≤ p) : (trW room l).getD p 0 = 0 := by
  unfold trW
  have := flat16_len (trL_all l)
  simp only [List.getD]
  rw [List.getElem?_append_right (by omega), List.getElem?_replicate]
  split <;> rfl
/-- What all nodes tell as leaves'. -/
def dcL (g : Nat → Int) (room : Nat) : List Blk := (List.range room).flatMap (fun i => dcN (fun k => g (16 * i + k)))
theorem dcN_congr {f g : Nat → Int} (h : ∀ k, k < 16 → f k = g k) : dcN f = dcN g := by
  unfold dcN
  rw [h 0 (by omega)]
  split
  · refine List.map_congr_left fun k hk => ?_
    have : k < 7 := by have := List.mem_range.1 hk; omega
    rw [h (1 + 2 * k) (by omega), h (2 + 2 * k) (by omega)]
  · rfl
theorem flatMap_getD (ws : List (List Int)) (f : List Int → List Blk) : (List.range ws.length).flatMap (fun i => f (ws.getD i [])) = ws.flatMap f := by
  induction ws with
  | nil => rfl
  | cons a r ih =>
    rw [List.length_cons, List.range_succ_eq_map, List.flatMap_cons, List.flatMap_map, List.flatMap_cons, ← ih]
    rfl
theorem dc_words {room : Nat} {l : List Blk} (h : (trL l).length ≤ room) (hx : ∀ x ∈ l, 0 ≤ x.ix ∧ x.ix ≤ 2) : dcL (fun p => (trW room l).getD p 0) room = l := by
  obtain ⟨d, rfl⟩ : ∃ d, room = (trL l).length + d := ⟨room - (trL l).length, by omega⟩
  unfold dcL
  rw [List.range_add, List.flatMap_append, List.flatMap_map]
  have e1 : ∀ i, i < (trL l).length → dcN (fun k => (trW ((trL l).length + d) l).getD (16 * i + k) 0) = dcW ((trL l).getD i []) := fun i hi => dcN_congr fun k hk => trW_node hi hk
  have e2 : ∀ i, dcN (fun k => (trW ((trL l).length + d) l).getD (16 * ((trL l).length + i) + k) 0) = [] := fun i => dc_none (trW_zero (by omega))
  have e3 : (List.range (trL l).length).flatMap (fun i => dcN (fun k => (trW ((trL l).length + d) l).getD (16 * i + k) 0)) = l := by
    have : (List.range (trL l).length).flatMap (fun i => dcN (fun k => (trW ((trL l).length + d) l).getD (16 * i + k) 0)) = (List.range (trL l).length).flatMap (fun i => dcW ((trL l).getD i [])) := by
      unfold List.flatMap
      rw [List.map_congr_left (fun i hi => e1 i (List.mem_range.1 hi))]
    rw [this, flatMap_getD, dc_tree hx]
  rw [e3]
  simp only [e2]
  have : ∀ m : List Nat, m.flatMap (fun _ => ([] : List Blk)) = [] := fun m => by induction m with
    | nil => rfl
    | cons a r ih => simp
  rw [this, List.append_nil]
/-- Each word of a tree fits. -/
theorem fit_pairs {leaf : Bool} {ps : List (Int × Int)} (hl : ps.length ≤ 7) (h : ∀ p ∈ ps, fitB p.1 = true ∧ fitB p.2 = true) : ∀ w ∈ nodL leaf ps, fitB w = true := by
  intro w hw
  unfold nodL p16 at hw
  rcases List.mem_append.1 hw with hw | hw
  · rcases List.mem_cons.1 hw with rfl | hw
    · refine fitB_t ?_ ?_ <;> (split <;> omega)
    · unfold prL at hw
      obtain ⟨p, hp, hw⟩ := List.mem_flatMap.1 hw
      have := h p hp
      simp only [List.mem_cons, List.not_mem_nil, or_false] at hw
      rcases hw with rfl | rfl
      · exact this.1
      · exact this.2
  · rw [(List.mem_replicate.1 hw).2]; decide
theorem RightX.ext {P : Int} {l : List Blk} (h : RightX P l) {x : Blk} (hx : x ∈ l) : 0 ≤ x.pos ∧ x.pos ≤ 64 ∧ 1 ≤ x.sz ∧ x.sz ≤ 64 ∧ 0 ≤ x.ix ∧ x.ix ≤ 2 := by
  obtain ⟨i, hi⟩ := List.getElem_of_mem hx
  obtain ⟨hi, e⟩ := hi
  have hb : ba l i = x := by simp [ba, List.getD, hi, e]
  have h1 := layX_at h.2 hi
  have h2 := h.1
  rw [hb] at h1
  omega
theorem RightX.at0 {P : Int} {l : List Blk} (h : RightX P l) (i : Nat) : 0 ≤ (ba l i).pos ∧ (ba l i).pos ≤ 64 := by
  by_cases hi : i < l.length
  · have := h.ext (ba_mem hi); omega
  · have : ba l i = Blk.z := by simp [ba, List.getD, List.getElem?_eq_none (show l.length ≤ i by omega)]
    rw [this]
    decide
theorem RightX.n64 {P : Int} {l : List Blk} (h : RightX P l) : l.length ≤ 64 := by have := h.len; have := h.1; omega
theorem node_fits {P : Int} {l : List Blk} (h : RightX P l) (j i : Nat) (hi : i ≤ 64) (hj : j ≤ 2) : ∀ w ∈ ndW l j i, fitB w = true := by
  refine fit_pairs (psN_le l j i) fun p hp => ?_
  cases j with
  | zero =>
    simp only [psN, List.mem_map] at hp
    obtain ⟨x, hx, rfl⟩ := hp
    have := h.ext (List.mem_of_mem_drop (List.mem_of_mem_take hx))
    exact ⟨fitB_t (by show 0 ≤ x.pos; omega) (by show x.pos ≤ _; omega), fitB_t (by show 0 ≤ 4 * x.sz + x.ix; omega) (by show 4 * x.sz + x.ix ≤ _; omega)⟩
  | succ j =>
    simp only [psN, List.mem_map, List.mem_range] at hp
    obtain ⟨k, hk, rfl⟩ := hp
    have h1 := h.at0 (7 ^ (j + 1) * (7 * i + k))
    have h2 : lvB l.length (j + 1) ≤ 11 := by
      have hn := h.n64
      unfold lvB
      split
      · split
        · omega
        · have : lvC l.length 1 ≤ 2 := by show abv (abv l.length) ≤ 2; unfold abv; omega
          omega
      · omega
    exact ⟨fitB_t h1.1 (by omega), fitB_t (by omega) (by omega)⟩
theorem tree_fits {P : Int} {l : List Blk} (h : RightX P l) (room : Nat) : okL (trW room l) = true := by
  unfold okL
  rw [List.all_eq_true]
  intro w hw
  unfold trW at hw
  have hn := h.n64
  have lv : ∀ j, j ≤ 2 → ∀ ws ∈ lvW l j, ∀ w ∈ ws, fitB w = true := fun j hj ws hws w hw => by
    simp only [lvW, List.mem_map, List.mem_range] at hws
    obtain ⟨i, hi, rfl⟩ := hws
    refine node_fits h j i ?_ hj w hw
    have : lvC l.length j ≤ 64 := by
      have c0 : abv l.length ≤ 10 := by unfold abv; omega
      have c1 : abv (abv l.length) ≤ 2 := by unfold abv at c0 ⊢; omega
      have c2 : abv (abv (abv l.length)) ≤ 1 := by unfold abv at c1 ⊢; omega
      rcases (show j = 0 ∨ j = 1 ∨ j = 2 by omega) with rfl | rfl | rfl
      · show abv l.length ≤ 64; omega
      · show abv (abv l.length) ≤ 64; omega
      · show abv (abv (abv l.length)) ≤ 64; omega
    omega
  rcases List.mem_append.1 hw with hw | hw
  · obtain ⟨ws, hws, hw⟩ := List.mem_flatten.1 hw
    unfold trL at hws
    split at hws
    · exact lv 0 (by omega) ws hws w hw
    · split at hws
      · rcases List.mem_append.1 hws with hws | hws
        · exact lv 1 (by omega) ws hws w hw
        · exact lv 0 (by omega) ws hws w hw
      · rcases List.mem_append.1 hws with hws | hws
        · exact lv 2 (by omega) ws hws w hw
        · rcases List.mem_append.1 hws with hws | hws
          · exact lv 1 (by omega) ws hws w hw
          · exact lv 0 (by omega) ws hws w hw
  · rw [(List.mem_replicate.1 hw).2]; decide

/-- Is there room for the tree? -/
def RoomX (room : Int) (l : List Blk) : Prop := ntN l.length ≤ room ∧ room ≤ 13
instance (room : Int) (l : List Blk) : Decidable (RoomX room l) := by unfold RoomX; exact inferInstance
def wtE (P room : Int) (l : List Blk) : Int := if RightX P l then (if RoomX room l then 0 else 2) else 1
def wtL (P room : Int) (l : List Blk) : List Int := if RightX P l ∧ RoomX room l then ofL (trW room.toNat l) else []
theorem wt_arg {P room : Int} {l : List Blk} (h : ¬ RightX P l) : wtE P room l = 1 ∧ wtL P room l = [] := ⟨if_neg h, if_neg fun c => h c.1⟩
theorem wt_long {P room : Int} {l : List Blk} (h : RightX P l) (hr : ¬ RoomX room l) : wtE P room l = 2 ∧ wtL P room l = [] := by
  unfold wtE wtL
  rw [if_pos h, if_neg hr, if_neg fun c => hr c.2]
  exact ⟨rfl, rfl⟩
theorem wt_ok {P room : Int} {l : List Blk} (h : RightX P l) (hr : RoomX room l) : wtE P room l = 0 ∧ wtL P room l = ofL (trW room.toNat l) := by
  unfold wtE wtL
  rw [if_pos h, if_pos hr, if_pos ⟨h, hr⟩]
  exact ⟨rfl, rfl⟩
theorem wtE_0 {P room : Int} {l : List Blk} : wtE P room l = 0 ↔ RightX P l ∧ RoomX room l := by
  unfold wtE
  by_cases h : RightX P l
  · rw [if_pos h]
    by_cases hr : RoomX room l
    · rw [if_pos hr]; exact ⟨fun _ => ⟨h, hr⟩, fun _ => rfl⟩
    · rw [if_neg hr]; exact ⟨fun c => by omega, fun c => (hr c.2).elim⟩
  · rw [if_neg h]; exact ⟨fun c => by omega, fun c => (h c.1).elim⟩
theorem RoomX.nodes {P room : Int} {l : List Blk} (h : RightX P l) (hr : RoomX room l) : (trL l).length ≤ room.toNat ∧ 1 ≤ room ∧ 1 ≤ (trL l).length := by
  have hn := h.n64
  obtain ⟨h1, h2⟩ := hr
  rw [nt_nat] at h1
  rw [trL_len (by omega)]
  have hp := abv_pos l.length
  have : 1 ≤ ndS (abv l.length) := by
    by_cases c : abv l.length ≤ 1
    · rw [ndS_le c]; omega
    · rw [ndS_gt c]; omega
  omega
theorem wt_len {P room : Int} {l : List Blk} (h : RightX P l) (hr : RoomX room l) : (wtL P room l).length = 128 * room.toNat := by
  rw [(wt_ok h hr).2, ofL_length, trW_len (hr.nodes h).1]
  omega
/-- What is written tells its extents. -/
def dcB (b : List Int) : List Blk := dcL (fun p => getN b (p : Nat)) (b.length / 128)
theorem dcL_congr {f g : Nat → Int} {room : Nat} (h : ∀ p, p < 16 * room → f p = g p) : dcL f room = dcL g room := by
  unfold dcL List.flatMap
  rw [List.map_congr_left (fun i hi => dcN_congr fun k hk => h (16 * i + k) (by have := List.mem_range.1 hi; omega))]
theorem dc_wt {P room : Int} {l : List Blk} (h : RightX P l) (hr : RoomX room l) : dcB (wtL P room l) = l := by
  unfold dcB
  rw [wt_len h hr, show 128 * room.toNat / 128 = room.toNat by omega, (wt_ok h hr).2]
  have e : dcL (fun p => getN (ofL (trW room.toNat l)) (p : Nat)) room.toNat = dcL (fun p => (trW room.toNat l).getD p 0) room.toNat := dcL_congr fun p hp => (get_of (tree_fits h _) p (by rw [trW_len (hr.nodes h).1]; exact hp)).1
  rw [e]
  exact dc_words (hr.nodes h).1 (fun x hx => by have := h.ext hx; omega)
/-- Bytes that are a tree's. -/
def RdX (P : Int) (b : List Int) : Prop := b.length % 128 = 0 ∧ wtE P (b.length / 128 : Nat) (dcB b) = 0 ∧ wtL P (b.length / 128 : Nat) (dcB b) = b
instance (P : Int) (b : List Int) : Decidable (RdX P b) := by unfold RdX; exact inferInstance
def rxL (P : Int) (b : List Int) : List Blk := if RdX P b then dcB b else []
def rxR (P : Int) (b : List Int) : Bool := decide (RdX P b)
theorem rx_t {P : Int} {b : List Int} (h : RdX P b) : rxL P b = dcB b ∧ rxR P b = true := ⟨if_pos h, decide_eq_true h⟩
theorem rx_f {P : Int} {b : List Int} (h : ¬ RdX P b) : rxL P b = [] ∧ rxR P b = false := ⟨if_neg h, decide_eq_false h⟩
/-- Just the bytes that some extents' tree is. -/
theorem rdX_iff {P : Int} {b : List Int} : RdX P b ↔ ∃ (room : Int) (l : List Blk), RightX P l ∧ RoomX room l ∧ wtL P room l = b := by
  constructor
  · rintro ⟨h1, h2, h3⟩
    obtain ⟨a1, a2⟩ := wtE_0.1 h2
    exact ⟨_, _, a1, a2, h3⟩
  · rintro ⟨room, l, h1, h2, rfl⟩
    have hl := wt_len h1 h2
    have hn := (h2.nodes h1).2.1
    have e : (((wtL P room l).length / 128 : Nat) : Int) = room := by rw [hl]; omega
    refine ⟨by rw [hl]; omega, ?_, ?_⟩
    · rw [e, dc_wt h1 h2]; exact wtE_0.2 ⟨h1, h2⟩
    · rw [e, dc_wt h1 h2]
theorem rd_wt {P room : Int} {l : List Blk} (h : RightX P l) (hr : RoomX room l) : RdX P (wtL P room l) ∧ rxL P (wtL P room l) = l := by
  have hd : RdX P (wtL P room l) := rdX_iff.2 ⟨room, l, h, hr, rfl⟩
  exact ⟨hd, by rw [(rx_t hd).1]; exact dc_wt h hr⟩
end Go.Proofs.Ythkloknongkpdaa
/- A tree of extents gone down from its root, and found in, in plain words. -/
namespace Go.Proofs.Ythkloknongkpdaa
set_option maxRecDepth 100000
set_option linter.unusedVariables false
set_option linter.unusedSimpArgs false

def HasX (x : Blk) (p : Int) : Prop := x.pos ≤ p ∧ p < x.pos + x.sz
instance (x : Blk) (p : Int) : Decidable (HasX x p) := by unfold HasX; exact inferInstance
/-- The extent that has a page. -/
def fnO (l : List Blk) (p : Int) : Option Blk := l.find? (fun x => decide (HasX x p))
def fdX (P : Int) (b : List Int) (p : Int) : Blk := (fnO (rxL P b) p).getD Blk.z
def fdXB (P : Int) (b : List Int) (p : Int) : Bool := (fnO (rxL P b) p).isSome
theorem fn_some {l : List Blk} {p : Int} {x : Blk} (h : fnO l p = some x) : x ∈ l ∧ HasX x p := ⟨List.mem_of_find?_eq_some h, by simpa using List.find?_some h⟩
theorem fn_none {l : List Blk} {p : Int} (h : fnO l p = none) : ∀ x ∈ l, ¬ HasX x p := fun x hx => by simpa using List.find?_eq_none.1 h x hx
theorem ex_lay {P : Int} {l : List Blk} : ∀ {a : Int} {f : Bool} {p : Int}, LayX P a f l → a ≤ p → p < P → ∃ e, e < l.length ∧ HasX (ba l e) p := by
  induction l with
  | nil =>
    intro a f p h h0 h1
    have : a = P := h
    omega
  | cons x r ih =>
    intro a f p h h0 h1
    obtain ⟨⟨g1, g2, _⟩, h6⟩ := h
    by_cases c : p < a + x.sz
    · exact ⟨0, by simp, by rw [ba_cons_zero]; exact ⟨by omega, by omega⟩⟩
    · obtain ⟨e, he, hx⟩ := ih h6 (p := p) (by omega) h1
      exact ⟨e + 1, by simpa using he, hx⟩
theorem RightX.one {P : Int} {l : List Blk} (h : RightX P l) {p : Int} (h0 : 0 ≤ p) (h1 : p < P) : ∃ e, e < l.length ∧ HasX (ba l e) p := ex_lay h.2 h0 h1
theorem key_le {P : Int} {l : List Blk} (h : RightX P l) {p : Int} {e a : Nat} (he : e < l.length) (hx : HasX (ba l e) p) (ha : a < l.length) : (ba l a).pos ≤ p ↔ a ≤ e := by
  obtain ⟨x1, x2⟩ := hx
  rcases Nat.lt_trichotomy a e with c | c | c
  · have := layX_rise h.2 c he
    have := (layX_at h.2 ha).2.1
    exact ⟨fun _ => by omega, fun _ => by omega⟩
  · subst c; exact ⟨fun _ => Nat.le_refl _, fun _ => x1⟩
  · have := layX_rise h.2 c ha
    exact ⟨fun _ => by omega, fun _ => by omega⟩
theorem fn_at {P : Int} {l : List Blk} (h : RightX P l) {p : Int} {e : Nat} (he : e < l.length) (hx : HasX (ba l e) p) : fnO l p = some (ba l e) := by
  cases c : fnO l p with
  | none => exact (fn_none c _ (ba_mem he) hx).elim
  | some y =>
    obtain ⟨hy, hp⟩ := fn_some c
    obtain ⟨i, hi⟩ := List.getElem_of_mem hy
    obtain ⟨hi, ei⟩ := hi
    have hb : ba l i = y := by simp [ba, List.getD, hi, ei]
    rw [← hb] at hp ⊢
    have h1 := (key_le h he hx hi).1 hp.1
    have h2 := (key_le h hi hp he).1 hx.1
    rw [show i = e by omega]
theorem fn_out {P : Int} {l : List Blk} (h : RightX P l) {p : Int} (hp : p < 0 ∨ P ≤ p) : fnO l p = none := by
  refine List.find?_eq_none.2 fun x hx => ?_
  obtain ⟨i, hi⟩ := List.getElem_of_mem hx
  obtain ⟨hi, ei⟩ := hi
  have hb : ba l i = x := by simp [ba, List.getD, hi, ei]
  have := layX_at h.2 hi
  rw [hb] at this
  have h2 : ¬ HasX x p := fun c => by obtain ⟨c1, c2⟩ := c; omega
  simpa using h2

/-- The number of a level's first node. -/
def nmN (n j : Nat) : Nat := if j = hgt n then 0 else lvB n (j + 1)
theorem hgt_le (n : Nat) : hgt n ≤ 2 := by unfold hgt; split <;> (try split) <;> omega
theorem top_one {n : Nat} (h : n ≤ 343) : lvC n (hgt n) = 1 := by
  unfold hgt
  have p0 := abv_pos n
  have p1 := abv_pos (abv n)
  by_cases c : abv n ≤ 1
  · rw [if_pos c]; show abv n = 1; omega
  · rw [if_neg c]
    by_cases c2 : abv (abv n) ≤ 1
    · rw [if_pos c2]; show abv (abv n) = 1; omega
    · rw [if_neg c2]
      show abv (abv (abv n)) = 1
      have h1 : abv n ≤ 49 := by unfold abv; omega
      have h2 : abv (abv n) ≤ 7 := by unfold abv at h1 ⊢; omega
      unfold abv at h2 ⊢; omega
theorem getD_left {a b : List (List Int)} {i : Nat} (h : i < a.length) : (a ++ b).getD i [] = a.getD i [] := by simp only [List.getD]; rw [List.getElem?_append_left h]
theorem getD_right {a b : List (List Int)} {i : Nat} : (a ++ b).getD (a.length + i) [] = b.getD i [] := by simp only [List.getD]; rw [List.getElem?_append_right (by omega), show a.length + i - a.length = i by omega]
theorem lvW_at {l : List Blk} {j i : Nat} (h : i < lvC l.length j) : (lvW l j).getD i [] = ndW l j i := by simp [lvW, List.getD, h]
theorem tr_at {l : List Blk} (h : l.length ≤ 343) {j i : Nat} (hj : j ≤ hgt l.length) (hi : i < lvC l.length j) : nmN l.length j + i < (trL l).length ∧ (trL l).getD (nmN l.length j + i) [] = ndW l j i := by
  have ht := top_one h
  have h2 := hgt_le l.length
  unfold nmN lvB trL
  rcases (show hgt l.length = 0 ∨ hgt l.length = 1 ∨ hgt l.length = 2 by omega) with e | e | e
  · rw [e] at hj ht ⊢
    obtain rfl : j = 0 := by omega
    rw [if_pos rfl, if_pos rfl, lvW_len, Nat.zero_add]
    exact ⟨hi, lvW_at hi⟩
  · rw [e] at hj ht ⊢
    rw [if_neg (show ¬ (1 = 0) by omega), if_pos rfl, List.length_append, lvW_len, lvW_len, ht]
    rcases (show j = 0 ∨ j = 1 by omega) with rfl | rfl
    · rw [if_neg (show ¬ (0 = 1) by omega), if_neg (show ¬ (1 = 2) by omega)]
      have := getD_right (a := lvW l 1) (b := lvW l 0) (i := i)
      rw [lvW_len, ht] at this
      exact ⟨by omega, by rw [this]; exact lvW_at hi⟩
    · rw [if_pos rfl, Nat.zero_add, getD_left (by rw [lvW_len]; exact hi)]
      exact ⟨by omega, lvW_at hi⟩
  · rw [e] at hj ht ⊢
    rw [if_neg (show ¬ (2 = 0) by omega), if_neg (show ¬ (2 = 1) by omega), List.length_append, List.length_append, lvW_len, lvW_len, lvW_len, ht]
    rcases (show j = 0 ∨ j = 1 ∨ j = 2 by omega) with rfl | rfl | rfl
    · rw [if_neg (show ¬ (0 = 2) by omega), if_pos rfl, if_neg (show ¬ (0 + 1 = 2) by omega)]
      have e1 := getD_right (a := lvW l 2) (b := lvW l 1 ++ lvW l 0) (i := lvC l.length 1 + i)
      have e2 := getD_right (a := lvW l 1) (b := lvW l 0) (i := i)
      rw [lvW_len] at e1 e2
      rw [ht] at e1
      exact ⟨by omega, by rw [show 1 + lvC l.length 1 + i = 1 + (lvC l.length 1 + i) by omega, e1, e2]; exact lvW_at hi⟩
    · rw [if_neg (show ¬ (1 = 2) by omega), if_pos rfl, if_pos rfl]
      have e1 := getD_right (a := lvW l 2) (b := lvW l 1 ++ lvW l 0) (i := i)
      rw [lvW_len, ht] at e1
      exact ⟨by omega, by rw [e1, getD_left (by rw [lvW_len]; exact hi)]; exact lvW_at hi⟩
    · rw [if_pos rfl, Nat.zero_add, getD_left (by rw [lvW_len]; exact hi)]
      exact ⟨by omega, lvW_at hi⟩
theorem lv_has {n e : Nat} (he : e < n) : ∀ j, e / 7 ^ (j + 1) < lvC n j := by
  intro j
  induction j with
  | zero =>
    show e / 7 ^ 1 < abv n
    unfold abv
    omega
  | succ j ih =>
    show e / 7 ^ (j + 1 + 1) < abv (lvC n j)
    rw [Nat.pow_succ, ← Nat.div_div_eq_div_mul]
    unfold abv
    omega
theorem lv_in {n : Nat} (hn : 1 ≤ n) : ∀ (j a : Nat), a < lvC n j → 7 ^ (j + 1) * a < n := by
  intro j
  induction j with
  | zero =>
    intro a h
    have h : a < abv n := h
    show 7 ^ 1 * a < n
    unfold abv at h
    omega
  | succ j ih =>
    intro a h
    have h : a < abv (lvC n j) := h
    have hp : 1 ≤ lvC n j := by cases j <;> exact abv_pos _
    have := ih (7 * a) (by unfold abv at h; omega)
    rw [Nat.pow_succ, Nat.mul_assoc]
    exact this
/-- The things beneath a level. -/
def lvT (n : Nat) : Nat → Nat
  | 0 => n
  | j + 1 => lvC n j
theorem ps_len (l : List Blk) (j i : Nat) : (psN l j i).length = min 7 (lvT l.length j - 7 * i) := by
  cases j with
  | zero => simp [psN, lvT]
  | succ j => simp [psN, lvT]
theorem ps_key {l : List Blk} {j i k : Nat} (hk : k < (psN l j i).length) : ((psN l j i).getD k (0, 0)).1 = (ba l (7 ^ j * (7 * i + k))).pos := by
  cases j with
  | zero =>
    have hk' : k < min 7 (l.length - 7 * i) := by simpa [psN] using hk
    simp only [psN, List.getD, List.getElem?_map]
    rw [List.getElem?_take, if_pos (by omega), List.getElem?_drop]
    simp only [Nat.pow_zero, Nat.one_mul, ba, List.getD]
    rw [List.getElem?_eq_getElem (by omega)]
    rfl
  | succ j =>
    have hk' : k < min 7 (lvC l.length j - 7 * i) := by simpa [psN] using hk
    simp [psN, List.getD, hk']
theorem ps_leaf {l : List Blk} {i k : Nat} (hk : k < (psN l 0 i).length) : (psN l 0 i).getD k (0, 0) = xpP (ba l (7 * i + k)) := by
  have hk' : k < min 7 (l.length - 7 * i) := by simpa [psN] using hk
  simp only [psN, List.getD, List.getElem?_map]
  rw [List.getElem?_take, if_pos (by omega), List.getElem?_drop]
  simp only [ba, List.getD]
  rw [List.getElem?_eq_getElem (by omega)]
  rfl
theorem ps_down {l : List Blk} {j i k : Nat} (hk : k < (psN l (j + 1) i).length) : ((psN l (j + 1) i).getD k (0, 0)).2 = ((lvB l.length (j + 1) + (7 * i + k) : Nat) : Int) := by
  have hk' : k < min 7 (lvC l.length j - 7 * i) := by simpa [psN] using hk
  simp [psN, List.getD, hk']
/-- The node of a level on the way to an extent, and its pair. -/
def wyN (e j : Nat) : Nat := e / 7 ^ (j + 1)
def wyK (e j : Nat) : Nat := e / 7 ^ j % 7
theorem wy_pair {l : List Blk} {e : Nat} (he : e < l.length) (j : Nat) : wyK e j < (psN l j (wyN e j)).length ∧ 7 * wyN e j + wyK e j = e / 7 ^ j := by
  have h1 : wyN e j = e / 7 ^ j / 7 := by unfold wyN; rw [Nat.pow_succ, Nat.div_div_eq_div_mul]
  have h2 : 7 * wyN e j + wyK e j = e / 7 ^ j := by rw [h1]; unfold wyK; omega
  refine ⟨?_, h2⟩
  rw [ps_len]
  have h3 : e / 7 ^ j < lvT l.length j := by
    cases j with
    | zero => simpa [lvT] using he
    | succ j => exact lv_has he j
  have : wyK e j < 7 := by unfold wyK; omega
  omega
/-- The last pair whose first number is at most the page is the one on the way. -/
theorem wy_last {P : Int} {l : List Blk} (h : RightX P l) {p : Int} {e : Nat} (he : e < l.length) (hx : HasX (ba l e) p) (j : Nat) {k : Nat} (hk : k < (psN l j (wyN e j)).length) : ((psN l j (wyN e j)).getD k (0, 0)).1 ≤ p ↔ k ≤ wyK e j := by
  rw [ps_key hk]
  obtain ⟨_, h2⟩ := wy_pair he j
  have hin : 7 ^ j * (7 * wyN e j + k) < l.length := by
    rw [ps_len] at hk
    cases j with
    | zero => rw [Nat.pow_zero, Nat.one_mul]; have : lvT l.length 0 = l.length := rfl; omega
    | succ j => exact lv_in (by omega) j _ (by have : lvT l.length (j + 1) = lvC l.length j := rfl; omega)
  rw [key_le h he hx hin]
  have hp : 0 < 7 ^ j := Nat.pos_of_ne_zero (by simp)
  constructor
  · intro hle
    have : 7 * wyN e j + k ≤ e / 7 ^ j := (Nat.le_div_iff_mul_le hp).2 (by rw [Nat.mul_comm]; exact hle)
    omega
  · intro hle
    have h3 : 7 * wyN e j + k ≤ e / 7 ^ j := by omega
    have := (Nat.le_div_iff_mul_le hp).1 h3
    rw [Nat.mul_comm]; exact this
/-- One step down. -/
theorem wy_step {l : List Blk} {e : Nat} (he : e < l.length) (j : Nat) : ((psN l (j + 1) (wyN e (j + 1))).getD (wyK e (j + 1)) (0, 0)).2 = ((lvB l.length (j + 1) + wyN e j : Nat) : Int) := by
  obtain ⟨h1, h2⟩ := wy_pair he (j + 1)
  rw [ps_down h1, h2]
  rfl
theorem wy_end {l : List Blk} {e : Nat} (he : e < l.length) : (psN l 0 (wyN e 0)).getD (wyK e 0) (0, 0) = xpP (ba l e) := by
  obtain ⟨h1, h2⟩ := wy_pair he 0
  rw [ps_leaf h1, h2, Nat.pow_zero, Nat.div_one]
end Go.Proofs.Ythkloknongkpdaa
