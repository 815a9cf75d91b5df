/- What is laid over bytes 0 one behind another, in whatever order, makes the bytes of a heap. -/
import Derived.Test.YtclkooaepfedaaaDoorTagM
import Derived.Test.YtclkooaepfedaaaDoorSplice
namespace Go.Proofs.YtclkooaepfedaaaDoor
set_option maxRecDepth 100000
open Go.RowKit
set_option linter.unusedVariables false
set_option linter.unusedSimpArgs false

theorem snoc_ind {α : Type} {motive : List α → Prop} (nil : motive []) (snoc : ∀ W x, motive W → motive (W ++ [x])) (W : List α) : motive W := by
  rw [← List.reverse_reverse W]
  induction W.reverse with
  | nil => exact nil
  | cons a r ih => rw [List.reverse_cons]; exact snoc _ _ ih
theorem splice_in {b ys : List Int} {o j : Nat} (hf : o + ys.length ≤ b.length) (hj : j < ys.length) : (splice b o ys).getD (o + j) 0 = ys.getD j 0 := by
  simp only [splice, List.getD]
  rw [List.getElem?_append_right (by simp; omega), List.getElem?_append_left (by simp; omega)]
  simp only [List.length_take, Nat.min_eq_left (show o ≤ b.length by omega), show o + j - o = j by omega]
theorem splice_out {b ys : List Int} {o j : Nat} (hf : o + ys.length ≤ b.length) (hj : j < o ∨ o + ys.length ≤ j) : (splice b o ys).getD j 0 = b.getD j 0 := by
  simp only [splice, List.getD]
  rcases hj with hj | hj
  · rw [List.getElem?_append_left (by simp; omega), List.getElem?_take, if_pos hj]
  · rw [List.getElem?_append_right (by simp; omega), List.getElem?_append_right (by simp; omega), List.getElem?_drop]
    simp only [List.length_take, Nat.min_eq_left (show o ≤ b.length by omega)]
    rw [show o + ys.length + (j - o - ys.length) = j by omega]
theorem putk_splice (zs : List Int) (p : Nat) (x : Int) : putk zs (8 * p) x 8 = splice zs (8 * p) (bys x 8) := by unfold splice putk; rw [bys_length]
/-- Rows laid over a row, one behind another. -/
def puts (b : List Int) (W : List (Nat × List Int)) : List Int := W.foldl (fun b x => splice b x.1 x.2) b
theorem puts_nil (b : List Int) : puts b [] = b := rfl
theorem puts_snoc (b : List Int) (W : List (Nat × List Int)) (x : Nat × List Int) : puts b (W ++ [x]) = splice (puts b W) x.1 x.2 := by simp [puts]
theorem puts_append (b : List Int) (W V : List (Nat × List Int)) : puts b (W ++ V) = puts (puts b W) V := by simp [puts]
/-- Each lies within. -/
def Within (n : Nat) (W : List (Nat × List Int)) : Prop := ∀ x ∈ W, x.1 + x.2.length ≤ n
theorem puts_length {n : Nat} {b : List Int} (hb : b.length = n) : ∀ {W : List (Nat × List Int)}, Within n W → (puts b W).length = n := by
  intro W
  induction W using snoc_ind with
  | nil => intro _; exact hb
  | snoc W x ih =>
    intro h
    rw [puts_snoc]
    have h1 := ih (fun y hy => h y (by simp [hy]))
    rw [splice_length (by rw [h1]; exact h x (by simp)), h1]
/-- Where two of them meet, they are one. -/
def Agree (W : List (Nat × List Int)) : Prop := ∀ x ∈ W, ∀ y ∈ W, ∀ j, x.1 ≤ j → j < x.1 + x.2.length → y.1 ≤ j → j < y.1 + y.2.length → x = y
theorem puts_in {n : Nat} {b : List Int} (hb : b.length = n) : ∀ {W : List (Nat × List Int)}, Within n W → Agree W → ∀ x ∈ W, ∀ j, j < x.2.length → (puts b W).getD (x.1 + j) 0 = x.2.getD j 0 := by
  intro W
  induction W using snoc_ind with
  | nil => intro _ _ x hx; cases hx
  | snoc W y ih =>
    intro h ha x hx j hj
    have hl := puts_length hb (W := W) (fun z hz => h z (by simp [hz]))
    have hy := h y (by simp)
    rw [puts_snoc]
    by_cases c : y.1 ≤ x.1 + j ∧ x.1 + j < y.1 + y.2.length
    · have e : x = y := ha x hx y (by simp) (x.1 + j) (by omega) (by omega) c.1 c.2
      subst e
      exact splice_in (by rw [hl]; exact hy) hj
    · rw [splice_out (by rw [hl]; exact hy) (by omega)]
      have hx' : x ∈ W := by
        rcases List.mem_append.1 hx with hx | hx
        · exact hx
        · rw [List.mem_singleton] at hx; subst hx; omega
      exact ih (fun z hz => h z (by simp [hz])) (fun u hu v hv => ha u (by simp [hu]) v (by simp [hv])) x hx' j hj
theorem puts_out {n : Nat} {b : List Int} (hb : b.length = n) : ∀ {W : List (Nat × List Int)}, Within n W → ∀ {j : Nat}, (∀ x ∈ W, j < x.1 ∨ x.1 + x.2.length ≤ j) → (puts b W).getD j 0 = b.getD j 0 := by
  intro W
  induction W using snoc_ind with
  | nil => intro _ _ _; rfl
  | snoc W y ih =>
    intro h j hj
    have hl := puts_length hb (W := W) (fun z hz => h z (by simp [hz]))
    rw [puts_snoc, splice_out (by rw [hl]; exact h y (by simp)) (hj y (by simp))]
    exact ih (fun z hz => h z (by simp [hz])) (fun x hx => hj x (by simp [hx]))

/-- What is laid of a used block. -/
def uW (f : Int) (s : Blk) (d : List Int) : List (Nat × List Int) := [(8 * wd f s.pos, bys s.tag 8), (8 * wd f (s.pos + s.sz - 1), bys s.tag 8), (8 * (wd f s.pos + 1), d)]
/-- What is laid of a free one. -/
def gW (f : Int) (s : Spn) (nx ah : Int) : List (Nat × List Int) := [(8 * wd f s.pos, bys (64 * s.sz) 8), (8 * wd f (s.pos + s.sz - 1), bys (64 * s.sz) 8), (8 * (wd f s.pos + 1), bys nx 8), (8 * (wd f s.pos + 2), bys ah 8)]
/-- What is laid of a heap. -/
def Laid (f t : Int) (l : List Blk) (ds : List (List Int)) (x : Nat × List Int) : Prop :=
  (∃ i, i < l.length ∧ x ∈ uW f (ba l i) (da ds i)) ∨ (∃ i, i < (gapsL f t (spL l)).length ∧ x ∈ gW f (pa (gapsL f t (spL l)) i) (nxL (gapsL f t (spL l)) i) (ahL (gapsL f t (spL l)) i))
theorem uW_range {f t : Int} {s : Blk} {d : List Int} {x : Nat × List Int} (h0 : f ≤ s.pos) (h4 : 4 ≤ s.sz) (hd : (d.length : Int) ≤ (s.sz - 2) * 8) (hx : x ∈ uW f s d) : 8 * wd f s.pos ≤ x.1 ∧ x.1 + x.2.length ≤ 8 * (wd f s.pos + s.sz.toNat) := by
  simp only [uW, List.mem_cons, List.not_mem_nil, or_false] at hx
  rcases hx with rfl | rfl | rfl <;> simp only [bys_length, wd] <;> omega
theorem uW_one {f t : Int} {s : Blk} {d : List Int} {x y : Nat × List Int} (h0 : f ≤ s.pos) (h4 : 4 ≤ s.sz) (hd : (d.length : Int) ≤ (s.sz - 2) * 8) (hx : x ∈ uW f s d) (hy : y ∈ uW f s d) {j : Nat} (a : x.1 ≤ j) (b : j < x.1 + x.2.length) (c : y.1 ≤ j) (e : j < y.1 + y.2.length) : x = y := by
  simp only [uW, List.mem_cons, List.not_mem_nil, or_false] at hx hy
  rcases hx with rfl | rfl | rfl <;> rcases hy with rfl | rfl | rfl <;> first | rfl | (exfalso; simp only [bys_length, wd] at a b c e; omega)
theorem gW_range {f : Int} {s : Spn} {nx ah : Int} {x : Nat × List Int} (h0 : f ≤ s.pos) (h4 : 4 ≤ s.sz) (hx : x ∈ gW f s nx ah) : 8 * wd f s.pos ≤ x.1 ∧ x.1 + x.2.length ≤ 8 * (wd f s.pos + s.sz.toNat) := by
  simp only [gW, List.mem_cons, List.not_mem_nil, or_false] at hx
  rcases hx with rfl | rfl | rfl | rfl <;> simp only [bys_length, wd] <;> omega
theorem gW_one {f : Int} {s : Spn} {nx ah : Int} {x y : Nat × List Int} (h0 : f ≤ s.pos) (h4 : 4 ≤ s.sz) (hx : x ∈ gW f s nx ah) (hy : y ∈ gW f s nx ah) {j : Nat} (a : x.1 ≤ j) (b : j < x.1 + x.2.length) (c : y.1 ≤ j) (e : j < y.1 + y.2.length) : x = y := by
  simp only [gW, List.mem_cons, List.not_mem_nil, or_false] at hx hy
  rcases hx with rfl | rfl | rfl | rfl <;> rcases hy with rfl | rfl | rfl | rfl <;> first | rfl | (exfalso; simp only [bys_length, wd] at a b c e; omega)
theorem Laid.within {f t : Int} {l : List Blk} {ds : List (List Int)} (hr : RightP f t (spL l)) (hh : HoldB l ds) {x : Nat × List Int} (h : Laid f t l ds x) : x.1 + x.2.length ≤ 8 * (t - f).toNat := by
  rcases h with ⟨i, hi, hx⟩ | ⟨i, hi, hx⟩
  · have hf := blk_fit hr hi
    have := uW_range (t := t) hf.1 hf.2.2.1 (hh.ixs i hi).2.2 hx
    unfold wd at this
    omega
  · have hf := gap_fit hr hi
    have := gW_range hf.1 hf.2.1 hx
    unfold wd at this
    omega
theorem Laid.agree {f t : Int} {l : List Blk} {ds : List (List Int)} (hr : RightP f t (spL l)) (hh : HoldB l ds) {x y : Nat × List Int} (h : Laid f t l ds x) (h' : Laid f t l ds y) {j : Nat} (a : x.1 ≤ j) (b : j < x.1 + x.2.length) (c : y.1 ≤ j) (e : j < y.1 + y.2.length) : x = y := by
  rcases h with ⟨i, hi, hx⟩ | ⟨i, hi, hx⟩
  · have hf := blk_fit hr hi
    have r1 := uW_range (t := t) hf.1 hf.2.2.1 (hh.ixs i hi).2.2 hx
    rcases h' with ⟨k, hk, hy⟩ | ⟨k, hk, hy⟩
    · have hg := blk_fit hr hk
      have r2 := uW_range (t := t) hg.1 hg.2.2.1 (hh.ixs k hk).2.2 hy
      rcases Nat.lt_trichotomy i k with h1 | h1 | h1
      · have := blk_order hr h1 hk
        unfold wd at r1 r2
        omega
      · subst h1
        exact uW_one (t := t) hf.1 hf.2.2.1 (hh.ixs i hi).2.2 hx hy a b c e
      · have := blk_order hr h1 hi
        unfold wd at r1 r2
        omega
    · have hg := gap_fit hr hk
      have r2 := gW_range hg.1 hg.2.1 hy
      have := gap_apart hr hi hk
      unfold wd at r1 r2
      omega
  · have hf := gap_fit hr hi
    have r1 := gW_range hf.1 hf.2.1 hx
    rcases h' with ⟨k, hk, hy⟩ | ⟨k, hk, hy⟩
    · have hg := blk_fit hr hk
      have r2 := uW_range (t := t) hg.1 hg.2.2.1 (hh.ixs k hk).2.2 hy
      have := gap_apart hr hk hi
      unfold wd at r1 r2
      omega
    · have hg := gap_fit hr hk
      have r2 := gW_range hg.1 hg.2.1 hy
      rcases Nat.lt_trichotomy i k with h1 | h1 | h1
      · have := gap_order hr h1 hk
        unfold Spn.fin at this
        unfold wd at r1 r2
        omega
      · subst h1
        exact gW_one hf.1 hf.2.1 hx hy a b c e
      · have := gap_order hr h1 hi
        unfold Spn.fin at this
        unfold wd at r1 r2
        omega
theorem bys_getD (x : Int) {o : Nat} (h : o < 8) : (bys x 8).getD o 0 = byt x o := by simp [bys, List.getD, h]
/-- The bytes of a heap, whatever the order. -/
theorem heap_puts {f t : Int} {l : List Blk} {ds : List (List Int)} {W : List (Nat × List Int)} (hr : RightP f t (spL l)) (hh : HoldB l ds) (h1 : ∀ x ∈ W, Laid f t l ds x) (h2 : ∀ x, Laid f t l ds x → x ∈ W) : HeapB f t l ds (puts (List.replicate (8 * (t - f).toNat) 0) W) := by
  have hb : (List.replicate (8 * (t - f).toNat) (0 : Int)).length = 8 * (t - f).toNat := by simp
  have hw : Within (8 * (t - f).toNat) W := fun x hx => (h1 x hx).within hr hh
  have ha : Agree W := fun x hx y hy j a b c e => (h1 x hx).agree hr hh (h1 y hy) a b c e
  have hin := puts_in hb hw ha
  have hz : ∀ j, (List.replicate (8 * (t - f).toNat) (0 : Int)).getD j 0 = 0 := fun j => by
    by_cases c : j < 8 * (t - f).toNat
    · simp [List.getD, c]
    · exact getD_out (by rw [hb]; omega)
  have word : ∀ p x, (8 * p, bys x 8) ∈ W → WA (puts (List.replicate (8 * (t - f).toNat) 0) W) p x := fun p x hx o ho => by
    have := hin _ hx o (by simp only [bys_length]; exact ho)
    rw [bys_getD x ho] at this
    exact this
  refine ⟨hr, hh, puts_length hb hw, fun i hi => ?_, fun i hi => ?_⟩
  · have hf := blk_fit hr hi
    have hx := hh.ixs i hi
    have mem : ∀ x ∈ uW f (ba l i) (da ds i), x ∈ W := fun x hx => h2 x (.inl ⟨i, hi, hx⟩)
    refine ⟨word _ _ (mem _ (by simp [uW])), word _ _ (mem _ (by simp [uW])), fun j hj => ?_⟩
    by_cases c : j < (da ds i).length
    · exact hin _ (mem (8 * (wd f (ba l i).pos + 1), da ds i) (by simp [uW])) j c
    · rw [getD_out (b := da ds i) (by omega), puts_out hb hw (fun x hx' => ?_), hz]
      rcases h1 x hx' with ⟨k, hk, hy⟩ | ⟨k, hk, hy⟩
      · have hg := blk_fit hr hk
        have r2 := uW_range (t := t) hg.1 hg.2.2.1 (hh.ixs k hk).2.2 hy
        rcases Nat.lt_trichotomy i k with h | h | h
        · have := blk_order hr h hk
          unfold wd at r2 ⊢
          omega
        · subst h
          simp only [uW, List.mem_cons, List.not_mem_nil, or_false] at hy
          rcases hy with rfl | rfl | rfl <;> simp only [bys_length, wd] <;> omega
        · have := blk_order hr h hi
          unfold wd at r2 ⊢
          omega
      · have hg := gap_fit hr hk
        have r2 := gW_range hg.1 hg.2.1 hy
        have := gap_apart hr hi hk
        unfold wd at r2 ⊢
        omega
  · have hf := gap_fit hr hi
    have mem : ∀ x ∈ gW f (pa (gapsL f t (spL l)) i) (nxL (gapsL f t (spL l)) i) (ahL (gapsL f t (spL l)) i), x ∈ W := fun x hx => h2 x (.inr ⟨i, hi, hx⟩)
    refine ⟨word _ _ (mem _ (by simp [gW])), word _ _ (mem _ (by simp [gW])), word _ _ (mem _ (by simp [gW])), word _ _ (mem _ (by simp [gW])), fun j h0 h1' => ?_⟩
    rw [puts_out hb hw (fun x hx' => ?_), hz]
    rcases h1 x hx' with ⟨k, hk, hy⟩ | ⟨k, hk, hy⟩
    · have hg := blk_fit hr hk
      have r2 := uW_range (t := t) hg.1 hg.2.2.1 (hh.ixs k hk).2.2 hy
      have := gap_apart hr hk hi
      unfold wd at r2 h0 h1'
      omega
    · have hg := gap_fit hr hk
      have r2 := gW_range hg.1 hg.2.1 hy
      rcases Nat.lt_trichotomy i k with h | h | h
      · have := gap_order hr h hk
        unfold Spn.fin at this
        unfold wd at r2 h0 h1'
        omega
      · subst h
        simp only [gW, List.mem_cons, List.not_mem_nil, or_false] at hy
        unfold wd at h0 h1'
        rcases hy with rfl | rfl | rfl | rfl <;> simp only [bys_length, wd] <;> omega
      · have := gap_order hr h hi
        unfold Spn.fin at this
        unfold wd at r2 h0 h1'
        omega
end Go.Proofs.YtclkooaepfedaaaDoor
