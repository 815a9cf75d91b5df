/- Heaps of format 1 in plain words: the list of a size, which blocks and data are right, what their bytes are, what the tags lead through; what follows. -/
import Derived.Test.YtfnnelkipdajiaaDoorGapM
namespace Go.Proofs.YtfnnelkipdajiaaDoor
set_option maxRecDepth 100000
open Go.RowKit
set_option linter.unusedVariables false
set_option linter.unusedSimpArgs false

structure Blk where
  pos : Int
  sz : Int
  ix : Int
def Blk.z : Blk := ⟨0, 0, 0⟩
instance : Inhabited Blk := ⟨Blk.z⟩
theorem Blk.ext' {a b : Blk} (h0 : a.pos = b.pos) (h1 : a.sz = b.sz) (h2 : a.ix = b.ix) : a = b := by
  cases a; cases b; simp_all
instance : DecidableEq Blk := fun a b =>
  if h : a.pos = b.pos ∧ a.sz = b.sz ∧ a.ix = b.ix then .isTrue (Blk.ext' h.1 h.2.1 h.2.2)
  else .isFalse (fun e => h (by subst e; exact ⟨rfl, rfl, rfl⟩))
/-- Its numbers are numbers that an int64 bears. -/
structure RgB (s : Blk) : Prop where
  p : Rg s.pos
  z : Rg s.sz
  i : Rg s.ix
def Blk.spn (s : Blk) : Spn := ⟨s.pos, s.sz⟩
def ba (l : List Blk) (i : Nat) : Blk := l.getD i Blk.z
theorem ba_mem {l : List Blk} {i : Nat} (h : i < l.length) : ba l i ∈ l := by
  simp only [ba, List.getD, List.getElem?_eq_getElem h, Option.getD_some]
  exact List.getElem_mem h
theorem ba_set_same (l : List Blk) (k : Nat) (s : Blk) (h : k < l.length) : ba (l.set k s) k = s := by simp [ba, List.getD, h]
theorem ba_set_other (l : List Blk) (k i : Nat) (s : Blk) (h : k ≠ i) : ba (l.set k s) i = ba l i := by simp [ba, List.getD, List.getElem?_set_ne h]
theorem drop_ba {l : List Blk} {k : Nat} (h : k < l.length) : l.drop k = ba l k :: l.drop (k + 1) := by
  rw [List.drop_eq_getElem_cons h]
  simp [ba, List.getD, List.getElem?_eq_getElem h]
theorem take_ba {l : List Blk} {k : Nat} (h : k < l.length) : l.take (k + 1) = l.take k ++ [ba l k] := by
  rw [List.take_add_one]
  simp [ba, List.getD, List.getElem?_eq_getElem h]
theorem ext_ba {a b : List Blk} (h : a.length = b.length) (k : ∀ i, i < a.length → ba a i = ba b i) : a = b := by
  apply List.ext_getElem?
  intro i
  by_cases hi : i < a.length
  · have hb : i < b.length := by omega
    have := k i hi
    simp only [ba, List.getD, List.getElem?_eq_getElem hi, List.getElem?_eq_getElem hb, Option.getD_some] at this
    rw [List.getElem?_eq_getElem hi, List.getElem?_eq_getElem hb, this]
  · rw [List.getElem?_eq_none (by omega), List.getElem?_eq_none (by omega)]
theorem ba_cons_zero (s : Blk) (l : List Blk) : ba (s :: l) 0 = s := rfl
theorem ba_cons_succ (s : Blk) (l : List Blk) (k : Nat) : ba (s :: l) (k + 1) = ba l k := rfl
/-- The spans of blocks. -/
def spL (l : List Blk) : List Spn := l.map Blk.spn
theorem spL_length (l : List Blk) : (spL l).length = l.length := by simp [spL]
theorem pa_spL (l : List Blk) (i : Nat) : pa (spL l) i = (ba l i).spn := by
  simp only [pa, ba, spL, List.getD, List.getElem?_map]
  cases l[i]? <;> rfl
def da (ds : List (List Int)) (i : Nat) : List Int := ds.getD i []

/-- The list of a size. -/
def lsN (s : Int) : Nat := if s ≤ 4 then 0 else if s ≤ 8 then 1 else if s ≤ 16 then 2 else if s ≤ 32 then 3 else if s ≤ 64 then 4 else if s ≤ 128 then 5 else 6
def lsB (s : Int) : Bool := decide (4 ≤ s)
theorem lsN_lt (s : Int) : lsN s < 7 := by unfold lsN; (repeat' split) <;> omega
theorem lsN_mono {a b : Int} (h : a ≤ b) : lsN a ≤ lsN b := by unfold lsN; (repeat' split) <;> omega
theorem lsN_small {s : Int} (h : s < 4) : lsN s = 0 := by unfold lsN; rw [if_pos (by omega)]
def mostL : List Int := [4, 8, 16, 32, 64, 128]
theorem lsN_at {s : Int} {k : Nat} (hk : k < 6) (h : s ≤ mostL.getD k 0) (hn : ∀ i, i < k → ¬ s ≤ mostL.getD i 0) : lsN s = k := by
  unfold lsN
  match k, hk with
  | 0, _ => simp [mostL] at h; rw [if_pos h]
  | 1, _ => simp [mostL] at h; have := hn 0 (by omega); simp [mostL] at this; rw [if_neg (by omega), if_pos h]
  | 2, _ => simp [mostL] at h; have := hn 1 (by omega); simp [mostL] at this; rw [if_neg (by omega), if_neg (by omega), if_pos h]
  | 3, _ => simp [mostL] at h; have := hn 2 (by omega); simp [mostL] at this; rw [if_neg (by omega), if_neg (by omega), if_neg (by omega), if_pos h]
  | 4, _ => simp [mostL] at h; have := hn 3 (by omega); simp [mostL] at this; rw [if_neg (by omega), if_neg (by omega), if_neg (by omega), if_neg (by omega), if_pos h]
  | 5, _ => simp [mostL] at h; have := hn 4 (by omega); simp [mostL] at this; rw [if_neg (by omega), if_neg (by omega), if_neg (by omega), if_neg (by omega), if_neg (by omega), if_pos h]
theorem lsN_end {s : Int} (hn : ¬ s ≤ 128) : lsN s = 6 := by
  unfold lsN
  rw [if_neg (by omega), if_neg (by omega), if_neg (by omega), if_neg (by omega), if_neg (by omega), if_neg (by omega)]

/-- 1 more than the place of the first one of a list; 0: there is none. -/
def fsL : List Spn → Nat → Int
  | [], _ => 0
  | s :: r, k => if lsN s.sz = k then s.pos + 1 else fsL r k
theorem fs_here {s : Spn} {r : List Spn} {k : Nat} (h : lsN s.sz = k) : fsL (s :: r) k = s.pos + 1 := if_pos h
theorem fs_next {s : Spn} {r : List Spn} {k : Nat} (h : lsN s.sz ≠ k) : fsL (s :: r) k = fsL r k := if_neg h
theorem fs_nil (k : Nat) : fsL [] k = 0 := rfl
theorem fs_bound {n : Int} (l : List Spn) (k : Nat) (h : ∀ s ∈ l, 0 ≤ s.pos ∧ s.pos < n) (hn : 0 ≤ n) : 0 ≤ fsL l k ∧ fsL l k ≤ n := by
  induction l with
  | nil => exact ⟨Int.le_refl _, hn⟩
  | cons s r ih =>
    have h1 := h s (by simp)
    have h2 := ih (fun x hx => h x (by simp [hx]))
    by_cases e : lsN s.sz = k
    · rw [fs_here e]; omega
    · rw [fs_next e]; exact h2
theorem fs_append (a b : List Spn) (k : Nat) (h : ∀ s ∈ a, 0 ≤ s.pos) : fsL (a ++ b) k = if fsL a k = 0 then fsL b k else fsL a k := by
  induction a with
  | nil => simp [fs_nil]
  | cons s r ih =>
    have h1 := h s (by simp)
    have h2 := ih (fun x hx => h x (by simp [hx]))
    rw [List.cons_append]
    by_cases e : lsN s.sz = k
    · rw [fs_here e, fs_here e, if_neg (by omega)]
    · rw [fs_next e, fs_next e]; exact h2
/-- The next one of its list, and the one ahead. -/
def nxL (g : List Spn) (i : Nat) : Int := fsL (g.drop (i + 1)) (lsN (pa g i).sz)
def ahL (g : List Spn) (i : Nat) : Int := fsL (g.take i).reverse (lsN (pa g i).sz)
def hdL (g : List Spn) : List Int := (List.range 7).map (fsL g)
theorem hdL_length (g : List Spn) : (hdL g).length = 7 := by simp [hdL]
theorem hdL_at (g : List Spn) {k : Nat} (h : k < 7) : (hdL g).getD k 0 = fsL g k := by simp [hdL, List.getD, h]
theorem rev_take {g : List Spn} {k : Nat} (h : k < g.length) : (g.take (k + 1)).reverse = pa g k :: (g.take k).reverse := by rw [take_pa h]; simp

/-- Blocks and data go together: slots of their own, room for the data. -/
structure HoldB (l : List Blk) (ds : List (List Int)) : Prop where
  len : ds.length = l.length
  ixs : ∀ i, i < l.length → 0 ≤ (ba l i).ix ∧ (ba l i).ix < 32 ∧ ((da ds i).length : Int) ≤ ((ba l i).sz - 2) * 8
  one : ∀ i j, i < j → j < l.length → (ba l i).ix ≠ (ba l j).ix

/-- A word stands there. -/
def WA (b : List Int) (p : Nat) (x : Int) : Prop := ∀ o, o < 8 → b.getD (8 * p + o) 0 = byt x o
theorem wa_cut {b : List Int} {p : Nat} {x : Int} (h : WA b p x) (hl : 8 * p + 8 ≤ b.length) : cut b p = bys x 8 := by
  apply List.ext_getElem?
  intro o
  by_cases ho : o < 8
  · have := h o ho
    simp only [List.getD, List.getElem?_eq_getElem (show 8 * p + o < b.length by omega), Option.getD_some] at this
    simp only [cut, List.getElem?_take, if_pos ho, List.getElem?_drop, List.getElem?_eq_getElem (show 8 * p + o < b.length by omega), this]
    simp [bys, ho]
  · rw [List.getElem?_eq_none (by simp [cut]; omega), List.getElem?_eq_none (by rw [bys_length]; omega)]
theorem wa_get {b : List Int} {p : Nat} {x : Int} (h : WA b p x) (hl : 8 * p + 8 ≤ b.length) (hx : fitB x = true) : getN b p = x ∧ getB b p = true := by
  have hh : hasB b.length p = true := hasB_t (by omega) (by omega)
  unfold getN getB
  rw [hh, Int.toNat_natCast, wa_cut h hl, (word_bys hx).1, (word_bys hx).2]
  exact ⟨rfl, rfl⟩
theorem put_in {b : List Int} {p : Nat} {x : Int} (hl : 8 * p + 8 ≤ b.length) : WA (putk b (8 * p) x 8) p x := by
  intro o ho
  simp only [List.getD, putk_in b (8 * p) x hl (8 * p + o) (by omega) (by omega), Option.getD_some]
  rw [show 8 * p + o - 8 * p = o by omega]
theorem put_out {b : List Int} {p : Nat} {x : Int} (hl : 8 * p + 8 ≤ b.length) {j : Nat} (hj : j < 8 * p ∨ 8 * p + 8 ≤ j) : (putk b (8 * p) x 8).getD j 0 = b.getD j 0 := by
  simp only [List.getD, putk_here b (8 * p) x hl j (by omega)]
/-- The same there. -/
theorem wa_same {b b' : List Int} {p : Nat} {x : Int} (h : WA b p x) (e : ∀ j, 8 * p ≤ j → j < 8 * p + 8 → b'.getD j 0 = b.getD j 0) : WA b' p x := fun o ho => by
  rw [e (8 * p + o) (by omega) (by omega)]; exact h o ho

def Blk.tag (s : Blk) : Int := 64 * s.sz + s.ix + 1
/-- The word of a place. -/
def wd (f p : Int) : Nat := (p - f).toNat
/-- A used block stands there. -/
structure UsedAt (f : Int) (b : List Int) (s : Blk) (d : List Int) : Prop where
  t0 : WA b (wd f s.pos) s.tag
  t1 : WA b (wd f (s.pos + s.sz - 1)) s.tag
  dat : ∀ j, j < 8 * (s.sz - 2).toNat → b.getD (8 * (wd f s.pos + 1) + j) 0 = d.getD j 0
/-- A free block stands there. -/
structure FreeAt (f : Int) (b : List Int) (s : Spn) (nx ah : Int) : Prop where
  t0 : WA b (wd f s.pos) (64 * s.sz)
  t1 : WA b (wd f (s.pos + s.sz - 1)) (64 * s.sz)
  w1 : WA b (wd f s.pos + 1) nx
  w2 : WA b (wd f s.pos + 2) ah
  rest : ∀ j, 8 * (wd f s.pos + 3) ≤ j → j < 8 * wd f (s.pos + s.sz - 1) → b.getD j 0 = 0
/-- The bytes of a heap. -/
structure HeapB (f t : Int) (l : List Blk) (ds : List (List Int)) (b : List Int) : Prop where
  right : RightP f t (spL l)
  hold : HoldB l ds
  len : b.length = 8 * (t - f).toNat
  used : ∀ i, i < l.length → UsedAt f b (ba l i) (da ds i)
  free : ∀ i, i < (gapsL f t (spL l)).length → FreeAt f b (pa (gapsL f t (spL l)) i) (nxL (gapsL f t (spL l)) i) (ahL (gapsL f t (spL l)) i)

theorem cov_pos {l : List Spn} {k : Int} (h : 0 < cov l k) : ∃ i, i < l.length ∧ (pa l i).pos ≤ k ∧ k < (pa l i).fin := by
  obtain ⟨s, hs, hk⟩ := List.countP_pos_iff.1 h
  obtain ⟨i, hi, rfl⟩ := mem_pa hs
  exact ⟨i, hi, by simpa using hk⟩
/-- Each word is of a used block, or of a free one. -/
theorem heap_words {f t : Int} {l : List Blk} (h : RightP f t (spL l)) {p : Int} (h0 : f ≤ p) (h1 : p < t) :
    (∃ i, i < l.length ∧ (ba l i).pos ≤ p ∧ p < (ba l i).pos + (ba l i).sz) ∨ (∃ i, i < (gapsL f t (spL l)).length ∧ (pa (gapsL f t (spL l)) i).pos ≤ p ∧ p < (pa (gapsL f t (spL l)) i).fin) := by
  have hc := cov_all (spL l) h.2 p
  rw [if_pos ⟨h0, h1⟩] at hc
  by_cases hz : 0 < cov (spL l) p
  · obtain ⟨i, hi, ha, hb⟩ := cov_pos hz
    rw [spL_length] at hi
    rw [pa_spL] at ha hb
    exact .inl ⟨i, hi, ha, hb⟩
  · exact .inr (cov_pos (by omega))
theorem blk_fit {f t : Int} {l : List Blk} (h : RightP f t (spL l)) {i : Nat} (hi : i < l.length) : f ≤ (ba l i).pos ∧ (ba l i).pos % 4 = 0 ∧ 4 ≤ (ba l i).sz ∧ (ba l i).sz ≤ t - (ba l i).pos ∧ (ba l i).sz % 4 = 0 := by
  have := h.fit (i := i) (by rw [spL_length]; exact hi)
  rw [pa_spL] at this
  exact this
theorem blk_order {f t : Int} {l : List Blk} (h : RightP f t (spL l)) {i j : Nat} (hij : i < j) (hj : j < l.length) : (ba l i).pos + (ba l i).sz ≤ (ba l j).pos := by
  have := lay_order h.2 hij (by rw [spL_length]; exact hj)
  rw [pa_spL, pa_spL] at this
  exact this
theorem gap_fit {f t : Int} {l : List Spn} (h : RightP f t l) {i : Nat} (hi : i < (gapsL f t l).length) : f ≤ (pa (gapsL f t l) i).pos ∧ 4 ≤ (pa (gapsL f t l) i).sz ∧ (pa (gapsL f t l) i).sz % 4 = 0 ∧ (pa (gapsL f t l) i).sz ≤ t - (pa (gapsL f t l) i).pos ∧ (pa (gapsL f t l) i).pos % 4 = 0 :=
  glay_at (glay_gaps h.1.2.2.2.2 l h.2 h.1.2.2.2.1) hi
theorem glay_order {t : Int} {l : List Spn} : ∀ {f : Int} {i j : Nat}, GLay f t l → i < j → j < l.length → (pa l i).fin ≤ (pa l j).pos := by
  induction l with
  | nil => intro f i j _ _ h; simp at h
  | cons s r ih =>
    intro f i j h hij hj
    cases j with
    | zero => omega
    | succ j =>
      have hj' : j < r.length := by simpa using hj
      cases i with
      | zero => rw [pa_cons_zero, pa_cons_succ]; have := (glay_at h.2 hj').1; omega
      | succ i => rw [pa_cons_succ, pa_cons_succ]; exact ih h.2 (by omega) hj'
theorem gap_order {f t : Int} {l : List Spn} (h : RightP f t l) {i j : Nat} (hij : i < j) (hj : j < (gapsL f t l).length) : (pa (gapsL f t l) i).fin ≤ (pa (gapsL f t l) j).pos :=
  glay_order (glay_gaps h.1.2.2.2.2 l h.2 h.1.2.2.2.1) hij hj
/-- A used block and a free one have no word in common. -/
theorem gap_apart {f t : Int} {l : List Blk} (h : RightP f t (spL l)) {i j : Nat} (hi : i < l.length) (hj : j < (gapsL f t (spL l)).length) :
    (ba l i).pos + (ba l i).sz ≤ (pa (gapsL f t (spL l)) j).pos ∨ (pa (gapsL f t (spL l)) j).pos + (pa (gapsL f t (spL l)) j).sz ≤ (ba l i).pos := by
  have hf := blk_fit h hi
  have hg := gap_fit h hj
  by_cases c : (ba l i).pos + (ba l i).sz ≤ (pa (gapsL f t (spL l)) j).pos
  · exact .inl c
  · by_cases c2 : (pa (gapsL f t (spL l)) j).pos + (pa (gapsL f t (spL l)) j).sz ≤ (ba l i).pos
    · exact .inr c2
    · exfalso
      obtain ⟨p, h0, h1, h2, h3⟩ : ∃ p, (ba l i).pos ≤ p ∧ p < (ba l i).pos + (ba l i).sz ∧ (pa (gapsL f t (spL l)) j).pos ≤ p ∧ p < (pa (gapsL f t (spL l)) j).pos + (pa (gapsL f t (spL l)) j).sz := by
        by_cases d : (ba l i).pos ≤ (pa (gapsL f t (spL l)) j).pos
        · exact ⟨(pa (gapsL f t (spL l)) j).pos, by omega, by omega, by omega, by omega⟩
        · exact ⟨(ba l i).pos, by omega, by omega, by omega, by omega⟩
      have hc := cov_all (spL l) h.2 p
      rw [if_pos ⟨by omega, by omega⟩] at hc
      have e1 : 0 < cov (spL l) p := List.countP_pos_iff.2 ⟨(ba l i).spn, by rw [← pa_spL]; exact pa_mem (by rw [spL_length]; exact hi), decide_eq_true ⟨h0, h1⟩⟩
      have e2 : 0 < cov (gapsL f t (spL l)) p := List.countP_pos_iff.2 ⟨_, pa_mem hj, decide_eq_true ⟨h2, h3⟩⟩
      omega
theorem getD_out {b : List Int} {j : Nat} (h : b.length ≤ j) : b.getD j 0 = 0 := by simp [List.getD, List.getElem?_eq_none h]
theorem ext_getD {a b : List Int} (h : a.length = b.length) (k : ∀ i, i < a.length → a.getD i 0 = b.getD i 0) : a = b := by
  apply List.ext_getElem?
  intro i
  by_cases hi : i < a.length
  · have hb : i < b.length := by omega
    have := k i hi
    simp only [List.getD, List.getElem?_eq_getElem hi, List.getElem?_eq_getElem hb, Option.getD_some] at this
    rw [List.getElem?_eq_getElem hi, List.getElem?_eq_getElem hb, this]
  · rw [List.getElem?_eq_none (by omega), List.getElem?_eq_none (by omega)]
theorem wa_two {b b' : List Int} {p : Nat} {x : Int} (h : WA b p x) (h' : WA b' p x) {j : Nat} (h0 : 8 * p ≤ j) (h1 : j < 8 * p + 8) : b.getD j 0 = b'.getD j 0 := by
  have e1 := h (j - 8 * p) (by omega)
  have e2 := h' (j - 8 * p) (by omega)
  rw [show 8 * p + (j - 8 * p) = j by omega] at e1 e2
  rw [e1, e2]
/-- There is one row of bytes of a heap. -/
theorem heap_one {f t : Int} {l : List Blk} {ds : List (List Int)} {b b' : List Int} (h : HeapB f t l ds b) (h' : HeapB f t l ds b') : b = b' := by
  have hft := h.right.1.2.1
  refine ext_getD (by rw [h.len, h'.len]) (fun j hj => ?_)
  rw [h.len] at hj
  obtain ⟨p, hp⟩ : ∃ p : Int, p = f + ((j / 8 : Nat) : Int) := ⟨_, rfl⟩
  rcases heap_words h.right (p := p) (by omega) (by omega) with ⟨i, hi, h0, h1⟩ | ⟨i, hi, h0, h1⟩
  · have u := h.used i hi
    have u' := h'.used i hi
    have hf := blk_fit h.right hi
    generalize ba l i = s at *
    by_cases c0 : p = s.pos
    · exact wa_two u.t0 u'.t0 (by unfold wd; omega) (by unfold wd; omega)
    · by_cases c1 : p = s.pos + s.sz - 1
      · exact wa_two u.t1 u'.t1 (by unfold wd; omega) (by unfold wd; omega)
      · have e1 := u.dat (j - 8 * (wd f s.pos + 1)) (by unfold wd; omega)
        have e2 := u'.dat (j - 8 * (wd f s.pos + 1)) (by unfold wd; omega)
        rw [show 8 * (wd f s.pos + 1) + (j - 8 * (wd f s.pos + 1)) = j by unfold wd; omega] at e1 e2
        rw [e1, e2]
  · have u := h.free i hi
    have u' := h'.free i hi
    have hf := gap_fit h.right hi
    generalize pa (gapsL f t (spL l)) i = s at *
    unfold Spn.fin at h1
    by_cases c0 : p = s.pos
    · exact wa_two u.t0 u'.t0 (by unfold wd; omega) (by unfold wd; omega)
    · by_cases c1 : p = s.pos + s.sz - 1
      · exact wa_two u.t1 u'.t1 (by unfold wd; omega) (by unfold wd; omega)
      · by_cases c2 : p = s.pos + 1
        · exact wa_two u.w1 u'.w1 (by unfold wd; omega) (by unfold wd; omega)
        · by_cases c3 : p = s.pos + 2
          · exact wa_two u.w2 u'.w2 (by unfold wd; omega) (by unfold wd; omega)
          · rw [u.rest j (by unfold wd; omega) (by unfold wd; omega), u'.rest j (by unfold wd; omega) (by unfold wd; omega)]
/-- Bytes 0 behind the data turn nothing. -/
theorem HeapB.pad {f t : Int} {l : List Blk} {ds ds' : List (List Int)} {b : List Int} (h : HeapB f t l ds b) (hh : HoldB l ds') (he : ∀ i, i < l.length → ∀ j, j < 8 * ((ba l i).sz - 2).toNat → (da ds' i).getD j 0 = (da ds i).getD j 0) : HeapB f t l ds' b :=
  ⟨h.right, hh, h.len, fun i hi => ⟨(h.used i hi).t0, (h.used i hi).t1, fun j hj => by rw [he i hi j hj]; exact (h.used i hi).dat j hj⟩, h.free⟩
/-- What stands between a block's tags. -/
def inL (f : Int) (b : List Int) (s : Blk) : List Int := (b.drop (8 * (wd f s.pos + 1))).take (8 * (s.sz - 2).toNat)
def fullD (f : Int) (b : List Int) (l : List Blk) : List (List Int) := l.map (inL f b)
theorem fullD_length (f : Int) (b : List Int) (l : List Blk) : (fullD f b l).length = l.length := by simp [fullD]
theorem da_full (f : Int) (b : List Int) (l : List Blk) {i : Nat} (h : i < l.length) : da (fullD f b l) i = inL f b (ba l i) := by
  simp [da, ba, fullD, List.getD, List.getElem?_eq_getElem h]
theorem inL_at {f : Int} {b : List Int} {s : Blk} {j : Nat} (h : j < 8 * (s.sz - 2).toNat) : (inL f b s).getD j 0 = b.getD (8 * (wd f s.pos + 1) + j) 0 := by
  simp [inL, List.getD, List.getElem?_take, h]
theorem inL_length {f t : Int} {b : List Int} {s : Blk} (hl : b.length = 8 * (t - f).toNat) (h0 : f ≤ s.pos) (h1 : 4 ≤ s.sz) (h2 : s.sz ≤ t - s.pos) : (inL f b s).length = 8 * (s.sz - 2).toNat := by
  simp only [inL, List.length_take, List.length_drop, hl, wd]
  omega
theorem HeapB.full {f t : Int} {l : List Blk} {ds : List (List Int)} {b : List Int} (h : HeapB f t l ds b) : HeapB f t l (fullD f b l) b := by
  refine h.pad ⟨fullD_length f b l, fun i hi => ?_, h.hold.one⟩ (fun i hi j hj => ?_)
  · have hf := blk_fit h.right hi
    have hx := h.hold.ixs i hi
    rw [da_full f b l hi, inL_length h.len hf.1 hf.2.2.1 hf.2.2.2.1]
    exact ⟨hx.1, hx.2.1, by omega⟩
  · rw [da_full f b l hi, inL_at hj]
    exact (h.used i hi).dat j hj

theorem fit_tag {s : Blk} (h0 : 0 ≤ s.sz) (h1 : s.sz ≤ 2048) (h2 : 0 ≤ s.ix) (h3 : s.ix < 32) : fitB s.tag = true := by unfold Blk.tag; exact fitB_t (by omega) (by omega)
theorem tag_two {s : Blk} (h2 : 0 ≤ s.ix) (h3 : s.ix < 32) : s.tag / 64 = s.sz ∧ s.tag % 64 - 1 = s.ix ∧ 0 < s.tag % 64 := by unfold Blk.tag; omega

/-- One comes from tag to tag to the end, over these used blocks. -/
inductive Chain (f t : Int) (b : List Int) : Int → List Blk → Prop
  | done : Chain f t b t []
  | free {a n : Int} {r : List Blk} : a < t → getN b (a - f) = n → 4 ≤ n / 64 → getN b (a - f + n / 64 - 1) = n → n % 64 = 0 → Chain f t b (a + n / 64) r → Chain f t b a r
  | used {a n : Int} {r : List Blk} : a < t → getN b (a - f) = n → 4 ≤ n / 64 → getN b (a - f + n / 64 - 1) = n → 0 < n % 64 → Chain f t b (a + n / 64) r → Chain f t b a (⟨a, n / 64, n % 64 - 1⟩ :: r)
theorem Chain.one {f t : Int} {b : List Int} {a : Int} {r r' : List Blk} (h : Chain f t b a r) (h' : Chain f t b a r') : r = r' := by
  induction h generalizing r' with
  | done => cases h' with
    | done => rfl
    | free h => omega
    | used h => omega
  | free h0 h1 h2 h3 h4 _ ih =>
    cases h' with
    | done => omega
    | free g0 g1 g2 g3 g4 g5 => rw [h1] at g1; subst g1; exact ih g5
    | used g0 g1 g2 g3 g4 g5 => rw [h1] at g1; subst g1; omega
  | used h0 h1 h2 h3 h4 _ ih =>
    cases h' with
    | done => omega
    | free g0 g1 g2 g3 g4 g5 => rw [h1] at g1; subst g1; omega
    | used g0 g1 g2 g3 g4 g5 => rw [h1] at g1; subst g1; rw [ih g5]
/-- Both tags of each block are there. -/
structure Tags (f t : Int) (b : List Int) (a : Int) (l : List Blk) : Prop where
  used : ∀ s ∈ l, getN b (s.pos - f) = s.tag ∧ getN b (s.pos + s.sz - 1 - f) = s.tag ∧ 0 ≤ s.ix ∧ s.ix < 32
  free : ∀ s ∈ gapsL a t (spL l), getN b (s.pos - f) = 64 * s.sz ∧ getN b (s.pos + s.sz - 1 - f) = 64 * s.sz
theorem chain_gap {f t : Int} {b : List Int} {a e : Int} {r : List Blk} (ha : a < e) (h4 : 4 ≤ e - a) (he : e ≤ t) (h : getN b (a - f) = 64 * (e - a) ∧ getN b (a + (e - a) - 1 - f) = 64 * (e - a)) (hr : Chain f t b e r) : Chain f t b a r := by
  have q : 64 * (e - a) / 64 = e - a := by omega
  refine Chain.free (by omega) h.1 (by omega) ?_ (by omega) ?_
  · rw [q, show a - f + (e - a) - 1 = a + (e - a) - 1 - f by omega]; exact h.2
  · rw [q, show a + (e - a) = e by omega]; exact hr
theorem chain_of {f t : Int} {b : List Int} (ht : t % 4 = 0) : ∀ (l : List Blk) (a : Int), LayP a t (spL l) → a % 4 = 0 → a ≤ t → Tags f t b a l → Chain f t b a l := by
  intro l
  induction l with
  | nil =>
    intro a _ ha hat h
    by_cases c : a < t
    · have := h.free ⟨a, t - a⟩ (by simp [spL, gapsL, gap1_t c])
      exact chain_gap c (by omega) (Int.le_refl _) this .done
    · obtain rfl : a = t := by omega
      exact .done
  | cons s r ih =>
    intro a hl ha hat h
    obtain ⟨⟨a1, a2, a3, a4, a5⟩, h2⟩ := hl
    simp only [Blk.spn, Spn.fin] at a1 a2 a3 a4 a5 h2
    have hu := h.used s (by simp)
    have q := tag_two hu.2.2.1 hu.2.2.2
    have hrest : Chain f t b (s.pos + s.sz) r := ih _ h2 (by omega) (by omega) ⟨fun x hx => h.used x (by simp [hx]), fun x hx => h.free x (by simp only [spL, List.map_cons, gapsL]; exact List.mem_append_right _ hx)⟩
    have hs : Chain f t b s.pos (s :: r) := by
      have := Chain.used (f := f) (t := t) (b := b) (a := s.pos) (n := s.tag) (r := r) (by omega) hu.1 (by omega) (by rw [q.1, show s.pos - f + s.sz - 1 = s.pos + s.sz - 1 - f by omega]; exact hu.2.1) q.2.2 (by rw [q.1]; exact hrest)
      rw [q.1, q.2.1] at this
      exact this
    by_cases c : a < s.pos
    · have := h.free ⟨a, s.pos - a⟩ (by simp only [spL, List.map_cons, gapsL]; exact List.mem_append_left _ (by simp [Blk.spn, gap1_t c]))
      exact chain_gap c (by omega) (by omega) this hs
    · obtain rfl : a = s.pos := by omega
      exact hs
theorem HeapB.tags {f t : Int} {l : List Blk} {ds : List (List Int)} {b : List Int} (h : HeapB f t l ds b) : Tags f t b f l := by
  have hl := h.len
  obtain ⟨hE, _⟩ := h.right
  unfold EndP at hE
  have get : ∀ (p : Int) (x : Int), f ≤ p → p < t → WA b (wd f p) x → fitB x = true → getN b (p - f) = x := fun p x h0 h1 hw hx => by
    have := (wa_get hw (by unfold wd; omega) hx).1
    rwa [show ((wd f p : Nat) : Int) = p - f by unfold wd; omega] at this
  refine ⟨fun s hs => ?_, fun s hs => ?_⟩
  · obtain ⟨i, hi, rfl⟩ := List.getElem_of_mem hs
    have e : l[i] = ba l i := by simp [ba, List.getD, List.getElem?_eq_getElem hi]
    rw [e]
    have hf := blk_fit h.right hi
    have hx := h.hold.ixs i hi
    have ft := fit_tag (s := ba l i) (by omega) (by omega) hx.1 hx.2.1
    exact ⟨get _ _ hf.1 (by omega) (h.used i hi).t0 ft, get _ _ (by omega) (by omega) (h.used i hi).t1 ft, hx.1, hx.2.1⟩
  · obtain ⟨i, hi, rfl⟩ := mem_pa hs
    have hf := gap_fit h.right hi
    have ft : fitB (64 * (pa (gapsL f t (spL l)) i).sz) = true := fitB_t (by omega) (by omega)
    exact ⟨get _ _ hf.1 (by omega) (h.free i hi).t0 ft, get _ _ (by omega) (by omega) (h.free i hi).t1 ft⟩
theorem HeapB.chain {f t : Int} {l : List Blk} {ds : List (List Int)} {b : List Int} (h : HeapB f t l ds b) : Chain f t b f l :=
  chain_of h.right.1.2.2.2.2 l f h.right.2 h.right.1.2.2.2.1 h.right.1.2.1 h.tags
/-- Bytes are of one heap alone. -/
theorem heap_blocks {f t : Int} {l l' : List Blk} {ds ds' : List (List Int)} {b : List Int} (h : HeapB f t l ds b) (h' : HeapB f t l' ds' b) : l = l' := h.chain.one h'.chain
end Go.Proofs.YtfnnelkipdajiaaDoor
