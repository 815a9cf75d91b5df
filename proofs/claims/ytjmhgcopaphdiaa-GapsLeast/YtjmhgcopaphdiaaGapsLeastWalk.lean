/- 'GapsLeast' walked: the span that fits best is one of them, and none is smaller. -/
import Derived.Test.YtjmhgcopaphdiaaSmallGap
import Derived.Deep.QuietTactic
import Derived.BigQuiet
namespace Go.Proofs.Ytjmhgcopaphdiaa
set_option maxRecDepth 100000
open Go.RowKit
set_option linter.unusedVariables false
set_option linter.unusedSimpArgs false
set_option maxRecDepth 100000

/-- One of those below k is u. -/
def fdB (l : List Spn) (u : Spn) (k : Nat) : Bool := decide (∃ i, i < k ∧ pa l i = u)
theorem fd_zero (l : List Spn) (u : Spn) : fdB l u 0 = false := by simp [fdB]
theorem fd_yes {l : List Spn} {u : Spn} {k : Nat} (h : fdB l u k = true) : fdB l u (k + 1) = true := by
  simp only [fdB, decide_eq_true_eq] at h ⊢
  obtain ⟨i, h1, h2⟩ := h
  exact ⟨i, by omega, h2⟩
theorem fd_same {l : List Spn} {u : Spn} {k : Nat} (h : pa l k = u) : fdB l u (k + 1) = true := by
  simp only [fdB, decide_eq_true_eq]
  exact ⟨k, by omega, h⟩
theorem fd_not {l : List Spn} {u : Spn} {k : Nat} (h : fdB l u k = false) (h2 : ¬ pa l k = u) : fdB l u (k + 1) = false := by
  simp only [fdB, decide_eq_false_iff_not] at h ⊢
  rintro ⟨i, h3, h4⟩
  by_cases e : i = k
  · exact h2 (by rw [← e]; exact h4)
  · exact h ⟨i, by omega, h4⟩
set_option maxHeartbeats 2000000 in
theorem gapsLeast_walk (w : World) (ao : Option Addr) (n cap : Nat) (l : List Spn) (h : Ps w ao n cap l) (hc : cap * 16 ≤ 140737488351232) (z : Int) (hw : (Lit.int .i64 z).wf = true) :
    Calls Try.prog 8 #[.slice ao n cap, .int .i64 z] w fun e w' => e = .returned (.bool true) ∧ Below w.heap.size w w' := by
  have hl := h.len
  have hroom := h.room
  have hn : n ≤ 9223372036854775807 := by omega
  clear hw
  have cB : ∀ w', Below w.heap.size w w' → Calls Try.prog 19 #[.slice ao n cap, .int .i64 z] w' fun e w'' => e = .returned (.tuple #[.agg #[.int .i64 (bsN l z).pos, .int .i64 (bsN l z).sz], .bool (bsB l z)]) ∧ Below w'.heap.size w' w'' := fun w' hb => best_ps ao n cap l z w' (h.below hb) hn
  -- what Best says
  have hT : (bsB l z = false ∧ bsN l z = ⟨0, 0⟩ ∧ ∀ i, i < n → (pa l i).sz < z) ∨ (bsB l z = true ∧ fdB l (bsN l z) n = true ∧ z ≤ (bsN l z).sz ∧ ∀ i, i < n → z ≤ (pa l i).sz → ¬ BtrP (pa l i) (bsN l z)) := by
    cases e : bsO l z with
    | none =>
      refine Or.inl ⟨by simp [bsB, e], by simp [bsN, e, Spn.z], ?_⟩
      rw [← hl]
      exact bs_none e
    | some b =>
      obtain ⟨⟨i, h1, h2⟩, h3, h4⟩ := bs_some e
      have en : bsN l z = b := by simp [bsN, e]
      refine Or.inr ⟨by simp [bsB, e], ?_, by rw [en]; exact h3, by rw [en, ← hl]; exact h4⟩
      rw [en]
      simp only [fdB, decide_eq_true_eq]
      exact ⟨i, by omega, h2⟩
  obtain ⟨u, hu⟩ : ∃ u, bsN l z = u := ⟨_, rfl⟩
  obtain ⟨is, his⟩ : ∃ is, bsB l z = is := ⟨_, rfl⟩
  rw [hu, his] at hT cB
  have HT := hid hT
  obtain ⟨up, uz⟩ := u
  simp only at cB
  clear hu his hT
  go_enter Try.func8, Try.ntmps8
  go_wp2_with (first
    | (go_at_call 9; with_reducible refine (smallP_any _).mono ?_; rintro e w1 ⟨rfl, hb1⟩)
    | (go_at_call 19; with_reducible refine (cB _ hb1).mono ?_; rintro e w2 ⟨rfl, hb2⟩))
  have hb3 : Below w.heap.size w (w2.alloc (.cells #[.int .i64 up, .int .i64 uz] 34)) := (next hb1 hb2).alloc (next hb1 hb2).size _
  have HX := hid (bxP_new' w2 up uz)
  clear hb1 hb2 cB
  go_loopw [8, 9] (fun s8 s9 wr => ∃ k : Nat, k ≤ n ∧ s8 = .bool (fdB l ⟨up, uz⟩ k) ∧ s9 = .int .i64 k ∧ Hid (BxP wr w2.heap.size ⟨up, uz⟩) ∧ Below w.heap.size w wr) (fun _ s9 _ => n - (intOf s9).toNat)
  case atStart => exact ⟨0, Nat.zero_le _, by rw [fd_zero], rfl, HX, hb3⟩
  case round =>
    obtain ⟨k, hk, rfl, rfl, HX1, hb⟩ := hrel
    clear hb3 HX
    obtain ⟨x0, x1, _, _⟩ := HX1.out.cells
    by_cases hlt : k < n
    · obtain ⟨b, o, rfl, _, _⟩ := h.here (by omega)
      obtain ⟨c0, c1⟩ := h.at hb hlt
      have hki : (k : Int) < (n : Int) := by omega
      have H7 : Hid ((fdB l ⟨up, uz⟩ k = true ∧ fdB l ⟨up, uz⟩ (k + 1) = true) ∨ (fdB l ⟨up, uz⟩ k = false ∧ pa l k = ⟨up, uz⟩ ∧ fdB l ⟨up, uz⟩ (k + 1) = true) ∨ (fdB l ⟨up, uz⟩ k = false ∧ ((pa l k).pos == up) = false ∧ fdB l ⟨up, uz⟩ (k + 1) = false) ∨ (fdB l ⟨up, uz⟩ k = false ∧ (pa l k).pos = up ∧ ((pa l k).sz == uz) = false ∧ fdB l ⟨up, uz⟩ (k + 1) = false)) := by
        refine hid ?_
        cases e : fdB l ⟨up, uz⟩ k with
        | true => exact .inl ⟨rfl, fd_yes e⟩
        | false =>
          by_cases e2 : pa l k = ⟨up, uz⟩
          · exact .inr (.inl ⟨rfl, e2, fd_same e2⟩)
          · rcases spn_ne e2 with e3 | ⟨e3, e4⟩
            · exact .inr (.inr (.inl ⟨rfl, e3, fd_not e e2⟩))
            · exact .inr (.inr (.inr ⟨rfl, e3, e4, fd_not e e2⟩))
      have H8 : Hid (decide (z ≤ (pa l k).sz) = false ∨ (decide (z ≤ (pa l k).sz) = true ∧ is = true ∧ decide ((pa l k).sz < uz) = false ∧ ((pa l k).sz == uz) = false) ∨ (decide (z ≤ (pa l k).sz) = true ∧ is = true ∧ decide ((pa l k).sz < uz) = false ∧ ((pa l k).sz == uz) = true ∧ decide ((pa l k).pos < up) = false)) := by
        refine hid ?_
        by_cases e : z ≤ (pa l k).sz
        · rcases HT.out with ⟨_, _, h3⟩ | ⟨h1, _, _, h4⟩
          · have := h3 k hlt; omega
          · have h5 := h4 k hlt e
            unfold BtrP at h5
            simp only at h5
            by_cases e2 : (pa l k).sz = uz
            · exact .inr (.inr ⟨decide_eq_true e, h1, decide_eq_false (by omega), by simpa using e2, decide_eq_false (by omega)⟩)
            · exact .inr (.inl ⟨decide_eq_true e, h1, decide_eq_false (by omega), by simpa using e2⟩)
        · exact .inl (decide_eq_false e)
      have Hst : Hid (∀ q, Hid (BxP (wr.drewN q) w2.heap.size ⟨up, uz⟩)) := fun q => hid (HX1.out.kept (below_drewN (Below.refl _ _) _))
      generalize pa l k = s at *
      obtain ⟨p, y⟩ := s
      simp only at c0 c1 H7 H8
      generalize fdB l ⟨up, uz⟩ k = f1 at *
      generalize hf2 : fdB l ⟨up, uz⟩ (k + 1) = f2 at *
      have HF2 := hid hf2
      clear hf2 h HX1 HT
      rcases H7.out with ⟨rfl, rfl⟩ | ⟨rfl, e7, rfl⟩ | ⟨rfl, e7, rfl⟩ | ⟨rfl, e7, e7', rfl⟩
      all_goals first | (simp only [Spn.mk.injEq] at e7; obtain ⟨rfl, rfl⟩ := e7) | subst e7 | skip
      all_goals
        clear H7
        rcases H8.out with e8 | ⟨e8, rfl, e9, e10⟩ | ⟨e8, rfl, e9, e10, e11⟩
        all_goals clear H8
        all_goals first
          | (exfalso; simp at e10; done)
          | (exfalso; have e12 := e7'.symm.trans e10; simp at e12; done)
          | (go_wp2
             go_quiet (fail)
             go_wp2
             go_quiet (fail)
             go_wp2
             go_roundw
             case rel => exact ⟨k + 1, by omega, by rw [HF2.out], by go_num, Hst.out _, below_drewN hb _⟩
             case measure => simp [intOf]; omega)
    · obtain rfl : k = n := by omega
      rcases HT.out with ⟨rfl, h2, _⟩ | ⟨rfl, h2, h3, _⟩
      · simp only [Spn.mk.injEq] at h2
        obtain ⟨rfl, rfl⟩ := h2
        clear h HT
        go_wp2
        go_ret
        exact ⟨rfl, hb⟩
      · rw [h2]
        clear h HT
        go_wp2
        go_ret
        exact ⟨rfl, hb⟩
end Go.Proofs.Ytjmhgcopaphdiaa
