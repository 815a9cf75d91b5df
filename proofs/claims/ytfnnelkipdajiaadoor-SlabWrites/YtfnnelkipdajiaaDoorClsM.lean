/- Classes of cells: what chapter 12 says of numbers, as functions of integers. -/
import Derived.Test.YtfnnelkipdajiaaDoorOff
namespace Go.Proofs.YtfnnelkipdajiaaDoor
set_option maxRecDepth 100000
set_option linter.unusedVariables false

/-- The words of each class's cells. -/
def szL : List Int := [2, 3, 5, 7, 10, 15]
/-- The class of an object of so many bytes (0: none). -/
def clN (n : Int) : Nat := if n ≤ 16 then 0 else if n ≤ 24 then 1 else if n ≤ 40 then 2 else if n ≤ 56 then 3 else if n ≤ 80 then 4 else if n ≤ 120 then 5 else 0
def clB (n : Int) : Bool := decide (1 ≤ n ∧ n ≤ 120)
/-- The words of a class's cells, the cells of its slabs (0: none). -/
def wdN (c : Int) : Int := if c = 0 then 2 else if c = 1 then 3 else if c = 2 then 5 else if c = 3 then 7 else if c = 4 then 10 else if c = 5 then 15 else 0
def wdE (c : Int) : Int := if 0 ≤ c ∧ c < 6 then 0 else 1
def ceN (c : Int) : Int := if c = 0 then 14 else if c = 1 then 9 else if c = 2 then 5 else if c = 3 then 4 else if c = 4 then 2 else if c = 5 then 1 else 0
/-- The pages of a large object. -/
def pgN (n : Int) : Int := if 120 < n ∧ n ≤ 2048 then (n + 255) / 256 else 0
def pgE (n : Int) : Int := if 120 < n ∧ n ≤ 2048 then 0 else 1
/-- The word where a cell begins. -/
def CtOk (c k : Int) : Prop := 0 ≤ k ∧ k < ceN c
instance (c k : Int) : Decidable (CtOk c k) := by unfold CtOk; exact inferInstance
def ctN (c k : Int) : Int := if CtOk c k then 4 + k * wdN c else 0
def ctE (c k : Int) : Int := if CtOk c k then 0 else 1
/-- The cell that begins at a word. -/
def WhOk (c o : Int) : Prop := 4 ≤ o ∧ (o - 4) / wdN c < ceN c ∧ (o - 4) % wdN c = 0
instance (c o : Int) : Decidable (WhOk c o) := by unfold WhOk; exact inferInstance
def whN (c o : Int) : Int := if WhOk c o then (o - 4) / wdN c else 0
def whB (c o : Int) : Bool := decide (WhOk c o)

theorem cls_cases (c : Int) : (c = 0 ∨ c = 1 ∨ c = 2 ∨ c = 3 ∨ c = 4 ∨ c = 5) ∨ (¬ (0 ≤ c ∧ c < 6)) := by omega
theorem wdN_out {c : Int} (h : ¬ (0 ≤ c ∧ c < 6)) : wdN c = 0 := by
  unfold wdN
  rw [if_neg (by omega), if_neg (by omega), if_neg (by omega), if_neg (by omega), if_neg (by omega), if_neg (by omega)]
theorem ceN_out {c : Int} (h : ¬ (0 ≤ c ∧ c < 6)) : ceN c = 0 := by
  unfold ceN
  rw [if_neg (by omega), if_neg (by omega), if_neg (by omega), if_neg (by omega), if_neg (by omega), if_neg (by omega)]
theorem wdE_out {c : Int} (h : ¬ (0 ≤ c ∧ c < 6)) : wdE c = 1 := if_neg h
theorem wdE_in {c : Int} (h : 0 ≤ c ∧ c < 6) : wdE c = 0 := if_pos h
theorem ctOk_out {c k : Int} (h : ¬ (0 ≤ c ∧ c < 6)) : ¬ CtOk c k := fun hk => by have := ceN_out h; obtain ⟨h1, h2⟩ := hk; omega
theorem whOk_out {c o : Int} (h : ¬ (0 ≤ c ∧ c < 6)) : ¬ WhOk c o := fun hk => by
  obtain ⟨h1, h2, h3⟩ := hk
  rw [wdN_out h, ceN_out h, Int.ediv_zero] at h2
  omega
/-- What is known of a class's words and cells. -/
theorem cls_in {c : Int} (h : 0 ≤ c ∧ c < 6) : 2 ≤ wdN c ∧ wdN c ≤ 15 ∧ 1 ≤ ceN c ∧ ceN c ≤ 14 ∧ 4 + wdN c * ceN c ≤ 32 ∧ 32 < 4 + wdN c * (ceN c + 1) := by
  rcases (show c = 0 ∨ c = 1 ∨ c = 2 ∨ c = 3 ∨ c = 4 ∨ c = 5 by omega) with rfl | rfl | rfl | rfl | rfl | rfl <;> decide
theorem ct_f {c k : Int} (h : ¬ CtOk c k) : ctN c k = 0 ∧ ctE c k = 1 := ⟨if_neg h, if_neg h⟩
theorem ct_t {c k : Int} (h : CtOk c k) : ctN c k = 4 + k * wdN c ∧ ctE c k = 0 := ⟨if_pos h, if_pos h⟩
theorem wh_f {c o : Int} (h : ¬ WhOk c o) : whN c o = 0 ∧ whB c o = false := ⟨if_neg h, decide_eq_false h⟩
theorem wh_t {c o : Int} (h : WhOk c o) : whN c o = (o - 4) / wdN c ∧ whB c o = true := ⟨if_pos h, decide_eq_true h⟩
theorem CtOk.cls {c k : Int} (h : CtOk c k) : 0 ≤ c ∧ c < 6 := Decidable.byContradiction fun hn => ctOk_out hn h
theorem WhOk.cls {c k : Int} (h : WhOk c k) : 0 ≤ c ∧ c < 6 := Decidable.byContradiction fun hn => whOk_out hn h
/-- Cell, then Which. -/
theorem wh_ct {c k : Int} (h : CtOk c k) : WhOk c (ctN c k) ∧ whN c (ctN c k) = k := by
  have hc := h.cls
  obtain ⟨w1, w2, _⟩ := cls_in hc
  obtain ⟨e, _⟩ := ct_t h
  have h1 : (4 + k * wdN c - 4) = k * wdN c := by omega
  have h2 : (k * wdN c) / wdN c = k := Int.mul_ediv_cancel _ (by omega)
  have ok : WhOk c (ctN c k) := by
    rw [e]
    refine ⟨?_, ?_, ?_⟩
    · have := Int.mul_nonneg h.1 (show 0 ≤ wdN c by omega)
      omega
    · rw [h1, h2]; exact h.2
    · rw [h1]; exact Int.mul_emod_left _ _
  refine ⟨ok, ?_⟩
  rw [(wh_t ok).1, e, h1, h2]
/-- Which, then Cell. -/
theorem ct_wh {c o : Int} (h : WhOk c o) : CtOk c (whN c o) ∧ ctN c (whN c o) = o := by
  have hc := h.cls
  obtain ⟨w1, w2, _⟩ := cls_in hc
  obtain ⟨e, _⟩ := wh_t h
  obtain ⟨h1, h2, h3⟩ := h
  have ok : CtOk c (whN c o) := by
    rw [e]
    exact ⟨Int.ediv_nonneg (by omega) (by omega), h2⟩
  refine ⟨ok, ?_⟩
  rw [(ct_t ok).1, e]
  have := Int.mul_ediv_add_emod (o - 4) (wdN c)
  rw [h3, Int.mul_comm] at this
  omega
theorem pg_t {n : Int} (h : 120 < n ∧ n ≤ 2048) : pgN n = (n + 255) / 256 ∧ pgE n = 0 := ⟨if_pos h, if_pos h⟩
theorem pg_f {n : Int} (h : ¬ (120 < n ∧ n ≤ 2048)) : pgN n = 0 ∧ pgE n = 1 := ⟨if_neg h, if_neg h⟩
theorem cl_f {n : Int} (h : ¬ (1 ≤ n ∧ n ≤ 120)) : clN n = 0 ∧ clB n = false := by
  refine ⟨?_, decide_eq_false h⟩
  unfold clN
  by_cases h1 : n ≤ 16
  · rw [if_pos h1]
  · rw [if_neg h1, if_neg (by omega), if_neg (by omega), if_neg (by omega), if_neg (by omega), if_neg (by omega)]
theorem cl_b {n : Int} (h : 1 ≤ n ∧ n ≤ 120) : clB n = true := decide_eq_true h
theorem clN_lt (n : Int) : clN n < 6 := by
  unfold clN
  split <;> try omega
  split <;> try omega
  split <;> try omega
  split <;> try omega
  split <;> try omega
  split <;> omega
/-- A small one's class is the first whose cell holds it. -/
theorem clN_at {n : Int} {k : Nat} (hk : k < 6) (h0 : 1 ≤ n) (h : n ≤ 8 * szL.getD k 0) (hl : ∀ i, i < k → ¬ n ≤ 8 * szL.getD i 0) : clN n = k ∧ clB n = true := by
  have p0 := hl 0; have p1 := hl 1; have p2 := hl 2; have p3 := hl 3; have p4 := hl 4
  rcases (show k = 0 ∨ k = 1 ∨ k = 2 ∨ k = 3 ∨ k = 4 ∨ k = 5 by omega) with rfl | rfl | rfl | rfl | rfl | rfl
  · have : n ≤ 16 := h
    exact ⟨by unfold clN; rw [if_pos this], cl_b ⟨h0, by omega⟩⟩
  · have : n ≤ 24 := h
    have q0 : ¬ n ≤ 16 := p0 (by omega)
    exact ⟨by unfold clN; rw [if_neg q0, if_pos this], cl_b ⟨h0, by omega⟩⟩
  · have : n ≤ 40 := h
    have q0 : ¬ n ≤ 24 := p1 (by omega)
    exact ⟨by unfold clN; rw [if_neg (by omega), if_neg q0, if_pos this], cl_b ⟨h0, by omega⟩⟩
  · have : n ≤ 56 := h
    have q0 : ¬ n ≤ 40 := p2 (by omega)
    exact ⟨by unfold clN; rw [if_neg (by omega), if_neg (by omega), if_neg q0, if_pos this], cl_b ⟨h0, by omega⟩⟩
  · have : n ≤ 80 := h
    have q0 : ¬ n ≤ 56 := p3 (by omega)
    exact ⟨by unfold clN; rw [if_neg (by omega), if_neg (by omega), if_neg (by omega), if_neg q0, if_pos this], cl_b ⟨h0, by omega⟩⟩
  · have : n ≤ 120 := h
    have q0 : ¬ n ≤ 80 := p4 (by omega)
    exact ⟨by unfold clN; rw [if_neg (by omega), if_neg (by omega), if_neg (by omega), if_neg (by omega), if_neg q0, if_pos this], cl_b ⟨h0, by omega⟩⟩
theorem cl_out {n : Int} (hl : ∀ i, i < 6 → ¬ n ≤ 8 * szL.getD i 0) : clN n = 0 ∧ clB n = false := by
  have q : ¬ n ≤ 120 := hl 5 (by omega)
  exact cl_f (by omega)
/-- A small one's cell holds it, one of a lesser class does not. -/
theorem cl_holds {n : Int} (h : 1 ≤ n ∧ n ≤ 120) : n ≤ 8 * wdN (clN n) ∧ 8 * wdN ((clN n : Int) - 1) < n ∧ (wdE ((clN n : Int) - 1) = 0 ∨ wdE ((clN n : Int) - 1) = 1) := by
  refine ⟨?_, ?_, ?_⟩
  · unfold clN
    split <;> (try (simp [wdN]; omega))
    split <;> (try (simp [wdN]; omega))
    split <;> (try (simp [wdN]; omega))
    split <;> (try (simp [wdN]; omega))
    split <;> (try (simp [wdN]; omega))
    split <;> (simp [wdN]; omega)
  · unfold clN
    split <;> (try (simp [wdN]; omega))
    split <;> (try (simp [wdN]; omega))
    split <;> (try (simp [wdN]; omega))
    split <;> (try (simp [wdN]; omega))
    split <;> (try (simp [wdN]; omega))
    split <;> (simp [wdN]; omega)
  · unfold wdE
    split
    · exact Or.inl rfl
    · exact Or.inr rfl
end Go.Proofs.YtfnnelkipdajiaaDoor
