/- What the document reads of an image: plain facts. -/
import Derived.Test.YtgiippbjieecmaaReadM
namespace Go.Proofs.Ytgiippbjieecmaa
set_option maxRecDepth 100000
open Go.RowKit
set_option linter.unusedVariables false

theorem getN_lo {zs : List Int} (hb : Bytes zs) : 0 ≤ getN zs 0 ∧ getN zs 0 ≤ 4611686018427387903 := by
  unfold getN
  split
  · unfold wN
    split
    · rename_i h
      exact ⟨(le_bound (cut_bytes hb _)).1, h⟩
    · omega
  · omega
theorem getB_pos {zs : List Int} (h : ¬ getN zs 0 < 1) : getB zs 0 = true := by
  cases h1 : hasB zs.length 0 with
  | false =>
    unfold getN at h
    rw [h1] at h
    exact absurd h (by simp)
  | true =>
    unfold getN at h
    rw [h1, if_pos rfl] at h
    unfold getB
    rw [h1, Bool.true_and]
    by_cases h2 : le (cut zs (0 : Int).toNat) ≤ 4611686018427387903
    · exact wB_t h2
    · unfold wN at h
      rw [if_neg h2] at h
      exact absurd h (by simp)
theorem ref_low {g : Lg} {z : List Int} (h : imgOk g z = true) (hb : Bytes z) (h2 : allZ (mkAt g z) = false) (h3 : getN (mkAt g z) 0 < 1) : readE g z = 7 ∧ readL g z = [] := by
  refine read_bad h h2 ?_
  cases hm : hasM g z with
  | false => exact Or.inl rfl
  | true =>
    right
    have hbm : Bytes (mkAt g z) := (hb.drop _).take _
    have h0 := getN_lo hbm
    have hc : cntAt g z = 0 := by unfold cntAt; omega
    unfold readOk
    rw [hc]
    have : wroteB g (chgsN (rsAt g z) 0) (rsAt g z) (mkAt g z) = false := by
      refine wroteB_f fun hw => ?_
      have e : markL (recsL (chgsN (rsAt g z) 0)) = mkAt g z := hw.2.2
      have e0 : recsL (chgsN (rsAt g z) 0) = [] := rfl
      rw [e0, markL_nil] at e
      rw [← e] at h2
      exact absurd h2 (by decide)
    rw [this]
    simp
theorem ref_high {g : Lg} {z : List Int} (h : imgOk g z = true) (h2 : allZ (mkAt g z) = false) (h3 : g.room < getN (mkAt g z) 0) : readE g z = 7 ∧ readL g z = [] :=
  read_bad h h2 (Or.inl (by unfold hasM; rw [decide_eq_false (by omega), Bool.and_false]))
def refOk (n : Int) (g : Lg) (l : List Chg) (rs m : List Int) : Bool := rightL n l && (!meetsG g l && (decide (recsL l = rs) && decide (markL rs = m)))
theorem chgsN_length (b : List Int) (k : Nat) : (chgsN b k).length = k := by simp [chgsN]
theorem ref_ok {g : Lg} {z : List Int} (h : imgOk g z = true) (hb : Bytes z) (h3 : getN (mkAt g z) 0 ≤ g.room) : readOk g z = refOk ((z.length / 64 : Nat) : Int) g (chgsN (rsAt g z) (cntAt g z)) (rsAt g z) (mkAt g z) := by
  unfold imgOk at h
  rw [Bool.and_eq_true, decide_eq_true_eq] at h
  obtain ⟨⟨z1, z2⟩, hG⟩ := h
  have hbm : Bytes (mkAt g z) := (hb.drop _).take _
  have h0 := getN_lo hbm
  generalize hN : z.length / 64 = N at *
  have hroom : ((chgsN (rsAt g z) (cntAt g z)).length : Int) ≤ g.room := by rw [chgsN_length]; unfold cntAt; omega
  have hlen := chgsN_length (rsAt g z) (cntAt g z)
  unfold readOk refOk
  rw [hN]
  generalize hl : chgsN (rsAt g z) (cntAt g z) = l at *
  cases hr : rightL (N : Int) l with
  | false => simp
  | true =>
    have hr4 : rightL 4096 l = true := rightL_mono hr (by omega)
    have hG4 : rightG g 4096 = true := rightG_iff.2 ((rightG_iff.1 hG).mono (by omega))
    have hmem : ∀ c ∈ l, 0 ≤ c.1 ∧ c.1 < 4096 ∧ c.2.length = 64 := fun c hc => rightL_mem hr4 hc
    rw [Bool.eq_iff_iff]
    constructor
    · intro e
      simp only [Bool.and_eq_true, Bool.true_and] at e ⊢
      obtain ⟨_, hw⟩ := e
      unfold wroteB at hw
      obtain ⟨w1, w2, w3⟩ := of_decide_eq_true hw
      have := writeE_zero w1
      rw [this.2.2.1, decide_eq_true w2, ← w2, decide_eq_true w3]
      exact ⟨rfl, rfl, rfl⟩
    · intro e
      simp only [Bool.and_eq_true, Bool.true_and, decide_eq_true_eq] at e ⊢
      obtain ⟨e1, e2, e3⟩ := e
      have hm : meetsG g l = false := by simpa using e1
      refine ⟨?_, ?_⟩
      · have := (chgs_recsL hmem).1
        rwa [e2, hlen] at this
      · exact wroteB_t ⟨writeE_ok (by rw [hG4, hr4, hm]; rfl) (by omega), e2, by rw [e2]; exact e3⟩
end Go.Proofs.Ytgiippbjieecmaa
