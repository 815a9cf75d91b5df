/- What was written is read: plain facts. -/
import Derived.Test.YtgiippbjieecmaaReadP
namespace Go.Proofs.Ytgiippbjieecmaa
set_option maxRecDepth 100000
open Go.RowKit
set_option linter.unusedVariables false

theorem recAt_recsL {l : List Chg} (h : ∀ c ∈ l, c.2.length = 64) {i : Nat} {c : Chg} (hi : l[i]? = some c) : recAt (recsL l) i = recL c := by
  induction l generalizing i with
  | nil => simp at hi
  | cons d l ih =>
    have hd := recL_length (h d (by simp))
    unfold recAt
    rw [recsL_cons]
    cases i with
    | zero =>
      simp only [List.getElem?_cons_zero, Option.some.injEq] at hi
      subst hi
      rw [Nat.mul_zero, List.drop_zero, List.take_append_of_le_length (by omega), List.take_of_length_le (by omega)]
    | succ i =>
      simp only [List.getElem?_cons_succ] at hi
      rw [List.drop_append, hd, List.drop_eq_nil_of_le (by omega), List.nil_append, show 128 * (i + 1) - 128 = 128 * i by omega]
      exact ih (fun d hd => h d (by simp [hd])) hi
theorem word_first {x : Int} (hx : fitB x = true) (rest tl : List Int) : getN (ofL (x :: rest) ++ tl) 0 = x ∧ getB (ofL (x :: rest) ++ tl) 0 = true := by
  have hl : (ofL (x :: rest) ++ tl).length = (rest.length + 1) * 8 + tl.length := by simp [ofL_length]
  have hh : hasB (ofL (x :: rest) ++ tl).length 0 = true := hasB_t (by omega) (by rw [hl]; omega)
  have hc : cut (ofL (x :: rest) ++ tl) (0 : Int).toNat = bys x 8 := by
    unfold cut
    show ((ofL (x :: rest) ++ tl).drop (8 * 0)).take 8 = _
    rw [Nat.mul_zero, List.drop_zero]
    have : ofL (x :: rest) = bys x 8 ++ ofL rest := by simp [ofL]
    rw [this, List.append_assoc, List.take_append_of_le_length (by rw [bys_length]; omega), List.take_of_length_le (by rw [bys_length]; omega)]
  obtain ⟨w1, w2⟩ := word_bys hx
  unfold getN getB
  rw [if_pos hh, hc, w1, w2, hh]
  exact ⟨rfl, rfl⟩
theorem chgs_recsL {l : List Chg} (h : ∀ c ∈ l, 0 ≤ c.1 ∧ c.1 < 4096 ∧ c.2.length = 64) : chgsB (recsL l) l.length = true ∧ chgsN (recsL l) l.length = l := by
  have key : ∀ i c, l[i]? = some c → getB (recAt (recsL l) i) 0 = true ∧ chgAt (recsL l) i = c := fun i c hi => by
    have hc := h c (List.mem_of_getElem? hi)
    have e := recAt_recsL (fun d hd => (h d hd).2.2) hi
    have hf : fitB c.1 = true := fitB_t hc.1 (by omega)
    obtain ⟨g1, g2⟩ := word_first hf [0, 0, 0, 0, 0, 0, 0] c.2
    unfold chgAt
    rw [e]
    unfold recL
    rw [g1, g2]
    refine ⟨rfl, ?_⟩
    rw [List.drop_append, List.drop_eq_nil_of_le (by rw [ofL_length]; simp), ofL_length, List.nil_append]
    simp
  constructor
  · unfold chgsB
    rw [List.all_eq_true]
    intro i hi
    have hi' : i < l.length := by simpa using hi
    exact (key i _ (List.getElem?_eq_getElem hi')).1
  · apply List.ext_getElem?
    intro i
    unfold chgsN
    rw [List.getElem?_map]
    by_cases hi : i < l.length
    · rw [List.getElem?_range hi, List.getElem?_eq_getElem hi]
      simp only [Option.map_some]
      rw [(key i _ (List.getElem?_eq_getElem hi)).2]
    · rw [List.getElem?_eq_none (by simpa using hi), List.getElem?_eq_none (by omega)]
      rfl
theorem mark_word {k s : Nat} (hk : k ≤ 4096) : getN (markN k s) 0 = k ∧ getB (markN k s) 0 = true := by
  have := word_first (x := (k : Int)) (fitB_t (by omega) (by omega)) [(s : Int), 0, 0, 0, 0, 0, 0] []
  rw [List.append_nil] at this
  exact this
theorem mark_zero {k s : Nat} (hk : k ≤ 4096) (hs : s < 4294967296) (h : 0 < k) : allZ (markN k s) = false := by
  unfold markN
  rw [allZ_ofL (okL_mark hk hs)]
  unfold allZ
  simp only [List.all_cons, Bool.and_eq_false_imp]
  intro e
  simp at e
  omega
/-- An image in which changes' records and mark lie tells them. -/
theorem read_written {g : Lg} {n : Nat} {l : List Chg} {z : List Int} (hz : z.length = 64 * n) (hn : n ≤ 4096) (hg : RightG g n) (hw : writeE g l = 0) (hr : rightL n l = true) (hby : ∀ c ∈ l, Bytes c.2) (hm : mkAt g z = markL (recsL l)) (hrs : (z.drop (g.first.toNat * 64)).take (l.length * 128) = recsL l) : readE g z = 0 ∧ readL g z = l := by
  have hzn : z.length / 64 = n := by omega
  have hok : imgOk g z = true := by
    unfold imgOk
    rw [hzn, rightG_iff.2 hg, decide_eq_true ⟨by omega, hn⟩]
    rfl
  obtain ⟨_, w2, w3, w4⟩ := writeE_zero hw
  have hmem : ∀ c ∈ l, 0 ≤ c.1 ∧ c.1 < 4096 ∧ c.2.length = 64 := fun c hc => rightL_mem w2 hc
  have hrl : (recsL l).length = 128 * l.length := recsL_length (fun c hc => (hmem c hc).2.2)
  have hl4 : l.length ≤ 4096 := by have := rightL_len w2; omega
  have hlt := sumN_lt (s := 0) (by omega) (recsL_bytes hby)
  have hM : markL (recsL l) = markN l.length (sumN 0 (recsL l)) := by unfold markL; rw [hrl, Nat.mul_div_cancel_left _ (by omega)]
  by_cases h0 : l = []
  · subst h0
    have hz' : allZ (mkAt g z) = true := by rw [hm]; show allZ (markL []) = true; rw [markL_nil]; decide
    exact read_none hok hz'
  · have hpos : 0 < l.length := List.length_pos_iff.2 h0
    rw [hM] at hm
    have hz' : allZ (mkAt g z) = false := by rw [hm]; exact mark_zero hl4 hlt hpos
    obtain ⟨q1, q2⟩ := mark_word (s := sumN 0 (recsL l)) hl4
    have hh : hasM g z = true := by
      unfold hasM
      rw [hm, q1, q2, decide_eq_true w4]
      rfl
    have hc : cntAt g z = l.length := by unfold cntAt; rw [hm, q1]; simp
    have hrs' : rsAt g z = recsL l := by unfold rsAt; rw [hc]; exact hrs
    obtain ⟨k1, k2⟩ := chgs_recsL hmem
    have hro : readOk g z = true := by
      unfold readOk
      rw [hc, hrs', k1, k2, hzn, hr, wroteB_t ⟨hw, rfl, by rw [hm, hM]⟩]
      rfl
    have := read_good hok hz' hh hro
    rw [hc, hrs', k2] at this
    exact this
/-- An image whose mark is 0 tells nothing. -/
theorem read_zeros {g : Lg} {n : Nat} {z : List Int} (hz : z.length = 64 * n) (hn : n ≤ 4096) (hg : RightG g n) (hm : mkAt g z = List.replicate 64 0) : readE g z = 0 ∧ readL g z = [] := by
  have hzn : z.length / 64 = n := by omega
  have hok : imgOk g z = true := by
    unfold imgOk
    rw [hzn, rightG_iff.2 hg, decide_eq_true ⟨by omega, hn⟩]
    rfl
  exact read_none hok (by rw [hm]; decide)
end Go.Proofs.Ytgiippbjieecmaa
