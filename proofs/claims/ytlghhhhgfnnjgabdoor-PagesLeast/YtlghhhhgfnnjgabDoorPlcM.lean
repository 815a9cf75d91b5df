/- Where a further object goes, and who lies in a page, in plain words; what follows. -/
import Derived.Test.YtlghhhhgfnnjgabDoorRunM
namespace Go.Proofs.YtlghhhhgfnnjgabDoor
set_option maxRecDepth 100000
set_option linter.unusedVariables false
set_option linter.unusedSimpArgs false

/-- The least number below N that fits. -/
def lsX (N : Nat) (q : Nat → Bool) : Option Nat := (List.range N).find? q
theorem lsX_some {N x : Nat} {q : Nat → Bool} : lsX N q = some x ↔ x < N ∧ q x = true ∧ ∀ y, y < x → q y = false := by
  unfold lsX
  induction N with
  | zero => simp
  | succ N ih =>
    rw [List.range_succ, List.find?_append]
    cases e : (List.range N).find? q with
    | some z =>
      simp only [Option.some_or]
      rw [← e, ih]
      constructor
      · rintro ⟨h1, h2, h3⟩; exact ⟨by omega, h2, h3⟩
      · rintro ⟨h1, h2, h3⟩
        refine ⟨?_, h2, h3⟩
        have hzq := List.find?_some e
        have hzm := List.mem_range.1 (List.mem_of_find?_eq_some e)
        apply Decidable.byContradiction
        intro hn
        have := h3 z (by omega)
        rw [hzq] at this
        cases this
    | none =>
      have hno : ∀ y, y < N → q y = false := fun y hy => by
        have := List.find?_eq_none.1 e y (List.mem_range.2 hy)
        simpa using this
      simp only [Option.none_or]
      by_cases hq : q N = true
      · rw [List.find?_cons_of_pos (by exact hq)]
        constructor
        · intro h
          obtain rfl : N = x := by simpa using h
          exact ⟨by omega, hq, hno⟩
        · rintro ⟨h1, h2, h3⟩
          by_cases hx : x < N
          · rw [hno x hx] at h2; cases h2
          · obtain rfl : x = N := by omega
            rfl
      · rw [List.find?_cons_of_neg (by exact hq)]
        simp only [List.find?_nil]
        constructor
        · intro h; cases h
        · rintro ⟨h1, h2, h3⟩
          by_cases hx : x < N
          · rw [hno x hx] at h2; cases h2
          · obtain rfl : x = N := by omega
            exact (hq h2).elim
theorem lsX_none {N : Nat} {q : Nat → Bool} : lsX N q = none ↔ ∀ y, y < N → q y = false := by
  unfold lsX
  rw [List.find?_eq_none]
  constructor
  · intro h y hy
    have := h y (List.mem_range.2 hy)
    simpa using this
  · intro h y hy
    rw [h y (List.mem_range.1 hy)]
    decide

/-- A word that an object begins at. -/
def ocB (l : List Spn) (x : Int) : Bool := l.any (fun o => decide (o.pos = x))
theorem ocB_t {l : List Spn} {x : Int} (h : ∃ o ∈ l, o.pos = x) : ocB l x = true := by
  obtain ⟨o, ho, e⟩ := h
  exact List.any_eq_true.2 ⟨o, ho, by simpa using e⟩
theorem ocB_f {l : List Spn} {x : Int} (h : ∀ o ∈ l, o.pos ≠ x) : ocB l x = false := by
  refine Bool.eq_false_iff.2 fun hn => ?_
  obtain ⟨o, ho, e⟩ := List.any_eq_true.1 hn
  exact h o ho (by simpa using e)
theorem ocB_iff {l : List Spn} {x : Int} : ocB l x = true ↔ ∃ o ∈ l, o.pos = x := by
  constructor
  · intro hn
    obtain ⟨o, ho, e⟩ := List.any_eq_true.1 hn
    exact ⟨o, ho, by simpa using e⟩
  · exact ocB_t
theorem ocB_no {l : List Spn} {x : Int} (h : ocB l x = false) : ∀ o ∈ l, o.pos ≠ x := fun o ho e => by
  rw [ocB_t ⟨o, ho, e⟩] at h
  cases h
/-- A word where a cell of class c begins that is free, in a page of that class. -/
def Cd1 (l : List Spn) (c : Nat) (x : Nat) : Bool := decide (kdL l ((x / 32 : Nat) : Int) = c ∧ WhOk c ((x % 32 : Nat) : Int)) && !ocB l x
/-- The first cell of a free page. -/
def Cd2 (l : List Spn) (x : Nat) : Bool := decide (kdL l ((x / 32 : Nat) : Int) = -1 ∧ x % 32 = 4)
/-- Where a further object goes. -/
def pcS (P : Int) (l : List Spn) (n : Int) : Option Nat := match lsX (32 * P.toNat) (Cd1 l (clN n)) with
  | some x => some x
  | none => lsX (32 * P.toNat) (Cd2 l)
def pcO (P : Int) (l : List Spn) (n : Int) : Option Int :=
  if RightO P l then
    if 1 ≤ n ∧ n ≤ 120 then Option.map (fun x : Nat => (x : Int)) (pcS P l n)
    else if 120 < n ∧ n ≤ 2048 then (btO (kzN P l) (pgN n)).map (fun s => 32 * s.pos)
    else none
  else none
def pcN (P : Int) (l : List Spn) (n : Int) : Int := (pcO P l n).getD 0
def pcB (P : Int) (l : List Spn) (n : Int) : Bool := (pcO P l n).isSome
theorem pc_f {P : Int} {l : List Spn} {n : Int} (h : pcO P l n = none) : pcN P l n = 0 ∧ pcB P l n = false := by
  unfold pcN pcB; rw [h]; exact ⟨rfl, rfl⟩
theorem pc_t {P : Int} {l : List Spn} {n x : Int} (h : pcO P l n = some x) : pcN P l n = x ∧ pcB P l n = true := by
  unfold pcN pcB; rw [h]; exact ⟨rfl, rfl⟩
theorem pc_wrong {P : Int} {l : List Spn} {n : Int} (h : ¬ RightO P l) : pcO P l n = none := if_neg h
theorem pc_small {P : Int} {l : List Spn} {n : Int} (h : RightO P l) (hn : 1 ≤ n ∧ n ≤ 120) : pcO P l n = Option.map (fun x : Nat => (x : Int)) (pcS P l n) := by
  unfold pcO; rw [if_pos h, if_pos hn]
theorem pc_large {P : Int} {l : List Spn} {n : Int} (h : RightO P l) (hn : 120 < n ∧ n ≤ 2048) : pcO P l n = (btO (kzN P l) (pgN n)).map (fun s => 32 * s.pos) := by
  unfold pcO; rw [if_pos h, if_neg (by omega), if_pos hn]
theorem pc_out {P : Int} {l : List Spn} {n : Int} (hn : ¬ (1 ≤ n ∧ n ≤ 2048)) : pcO P l n = none := by
  unfold pcO
  split
  · rw [if_neg (by omega), if_neg (by omega)]
  · rfl
theorem pcS_1 {P : Int} {l : List Spn} {n : Int} {x : Nat} (h : lsX (32 * P.toNat) (Cd1 l (clN n)) = some x) : pcS P l n = some x := by unfold pcS; rw [h]
theorem pcS_2 {P : Int} {l : List Spn} {n : Int} (h : lsX (32 * P.toNat) (Cd1 l (clN n)) = none) : pcS P l n = lsX (32 * P.toNat) (Cd2 l) := by unfold pcS; rw [h]
theorem Cd1_t {l : List Spn} {c x : Nat} : Cd1 l c x = true ↔ kdL l ((x / 32 : Nat) : Int) = c ∧ WhOk c ((x % 32 : Nat) : Int) ∧ ∀ o ∈ l, o.pos ≠ x := by
  unfold Cd1
  rw [Bool.and_eq_true, decide_eq_true_eq, Bool.not_eq_true', and_assoc]
  constructor
  · rintro ⟨h1, h2, h3⟩; exact ⟨h1, h2, ocB_no h3⟩
  · rintro ⟨h1, h2, h3⟩; exact ⟨h1, h2, ocB_f h3⟩
theorem Cd2_t {l : List Spn} {x : Nat} : Cd2 l x = true ↔ kdL l ((x / 32 : Nat) : Int) = -1 ∧ x % 32 = 4 := by
  unfold Cd2
  rw [decide_eq_true_eq]
/-- The first cell of each class begins behind the head. -/
theorem whOk_4 {c : Int} (h : 0 ≤ c ∧ c < 6) : WhOk c 4 := by
  rcases (show c = 0 ∨ c = 1 ∨ c = 2 ∨ c = 3 ∨ c = 4 ∨ c = 5 by omega) with rfl | rfl | rfl | rfl | rfl | rfl <;> decide
theorem pgA_nat (x : Nat) (n : Int) : pgA ⟨x, n⟩ = ((x / 32 : Nat) : Int) := by unfold pgA; show (x : Int) / 32 = _; omega
theorem ka_kz {P : Int} {l : List Spn} {i : Nat} (h : i < P.toNat) : ka (kzN P l) i = kdL l i := kzN_at h 0

/-- With what is placed, right ones stay right, and the others' pages keep their kinds. -/
theorem places {P : Int} {l : List Spn} {n x : Int} (h : pcO P l n = some x) : RightO P l ∧ (1 ≤ n ∧ n ≤ 2048) ∧ 0 ≤ x ∧ x < 32 * P ∧ RightO P (l ++ [⟨x, n⟩]) ∧ ∀ p, kdL l p ≠ -1 → kdL (l ++ [⟨x, n⟩]) p = kdL l p := by
  by_cases hr : RightO P l
  · obtain ⟨P0, P1⟩ := hr.rng
    refine ⟨hr, ?_⟩
    by_cases hs : 1 ≤ n ∧ n ≤ 120
    · rw [pc_small hr hs] at h
      obtain ⟨X, hX, rfl⟩ : ∃ X : Nat, pcS P l n = some X ∧ (X : Int) = x := Option.map_eq_some_iff.1 h
      have hs2 : (⟨(X : Int), n⟩ : Spn).sz ≤ 120 := hs.2
      have key : X < 32 * P.toNat ∧ WhOk (clN n) ((X % 32 : Nat) : Int) ∧ (kdL l ((X / 32 : Nat) : Int) = -1 ∨ kdL l ((X / 32 : Nat) : Int) = clN n) ∧ ∀ o ∈ l, o.pos ≠ X := by
        cases e : lsX (32 * P.toNat) (Cd1 l (clN n)) with
        | some y =>
          rw [pcS_1 e] at hX
          obtain rfl : y = X := by simpa using hX
          obtain ⟨h1, h2, _⟩ := lsX_some.1 e
          obtain ⟨h3, h4, h5⟩ := Cd1_t.1 h2
          exact ⟨h1, h4, Or.inr h3, h5⟩
        | none =>
          rw [pcS_2 e] at hX
          obtain ⟨h1, h2, _⟩ := lsX_some.1 hX
          obtain ⟨h3, h4⟩ := Cd2_t.1 h2
          refine ⟨h1, ?_, Or.inl h3, fun o ho e => ?_⟩
          · rw [h4]; have := clN_lt n; exact whOk_4 ⟨by omega, by omega⟩
          · refine (kdL_neg hr).1 h3 o ho ?_
            have := (hr.lie o ho).first
            unfold pgA at this
            rw [e] at this
            rw [show ((X / 32 : Nat) : Int) = (X : Int) / 32 by omega]
            exact this
      obtain ⟨k1, k2, k3, k4⟩ := key
      have hin : InC P ⟨X, n⟩ := by
        refine Or.inl ⟨⟨hs, by show (0 : Int) ≤ X; omega, ?_⟩, by show (X : Int) / 32 < P; omega⟩
        show WhOk (clN n) ((X : Int) % 32)
        rw [show (X : Int) % 32 = ((X % 32 : Nat) : Int) by omega]
        exact k2
      have hR : RightO P (l ++ [⟨X, n⟩]) := (hr.small hs2).2 ⟨hin, by rw [pgA_nat]; exact k3, k4⟩
      refine ⟨by omega, by omega, by omega, hR, fun p hp => ?_⟩
      rw [kdL_snoc hR]
      split
      · rename_i hh
        obtain ⟨a1, a2⟩ := hh
        rw [pgK_small hs2] at a2
        have e : p = pgA ⟨X, n⟩ := by omega
        rw [kdO_small hs2]
        rw [e, pgA_nat] at hp ⊢
        rcases k3 with k3 | k3
        · exact (hp k3).elim
        · exact k3.symm
      · rfl
    · by_cases hl : 120 < n ∧ n ≤ 2048
      · rw [pc_large hr hl] at h
        obtain ⟨s, hS, rfl⟩ : ∃ s, btO (kzN P l) (pgN n) = some s ∧ 32 * s.pos = x := Option.map_eq_some_iff.1 h
        obtain ⟨b1, b2, b3, _⟩ := bt_some hS
        obtain ⟨r1, r2, r3⟩ := rn_rg (k := (kzN P l).length) (by rw [kzN_len]; omega) s b2
        rw [kzN_len] at r3
        have hn2 : ¬ (⟨32 * s.pos, n⟩ : Spn).sz ≤ 120 := by show ¬ n ≤ 120; omega
        have eA : pgA ⟨32 * s.pos, n⟩ = s.pos := by unfold pgA; show 32 * s.pos / 32 = _; omega
        have hin : InC P ⟨32 * s.pos, n⟩ := by
          refine Or.inr ⟨hl, by show 0 ≤ 32 * s.pos; omega, by show 32 * s.pos % 32 = 0; omega, ?_⟩
          show 32 * s.pos / 32 + pgN n ≤ P
          omega
        have hfree : ∀ p, HasC ⟨32 * s.pos, n⟩ p → kdL l p = -1 := fun p hp => by
          obtain ⟨a1, a2⟩ := hp
          rw [pgK_large hn2, eA] at a2
          rw [eA] at a1
          have a2' : p < s.pos + pgN n := a2
          have := rn_free b2 (p := p) a1 (by omega)
          rw [ka_kz (by omega), show ((p.toNat : Nat) : Int) = p by omega] at this
          exact this
        have hR : RightO P (l ++ [⟨32 * s.pos, n⟩]) := (hr.large hn2).2 ⟨hin, hfree⟩
        refine ⟨by omega, by omega, by omega, hR, fun p hp => ?_⟩
        rw [kdL_snoc hR]
        split
        · rename_i hh
          exact (hp (hfree p hh)).elim
        · rfl
      · rw [pc_out (by omega)] at h
        cases h
  · rw [pc_wrong hr] at h
    cases h
/-- Where no room is told, there is none. -/
theorem full {P : Int} {l : List Spn} {n : Int} (hr : RightO P l) (h : pcO P l n = none) (x : Int) : ¬ RightO P (l ++ [⟨x, n⟩]) := by
  obtain ⟨P0, P1⟩ := hr.rng
  intro hR
  obtain ⟨_, hin, _⟩ := rightO_snoc.1 hR
  by_cases hs : 1 ≤ n ∧ n ≤ 120
  · rw [pc_small hr hs] at h
    have h : pcS P l n = none := Option.map_eq_none_iff.1 h
    have hs2 : (⟨x, n⟩ : Spn).sz ≤ 120 := hs.2
    obtain ⟨_, k1, k2⟩ := (hr.small hs2).1 hR
    obtain ⟨⟨_, s1, s2⟩, s3⟩ := hin.small hs2
    have s1' : 0 ≤ x := s1
    have s2' : WhOk (clN n) (x % 32) := s2
    have s3' : x / 32 < P := s3
    cases e : lsX (32 * P.toNat) (Cd1 l (clN n)) with
    | some y => rw [pcS_1 e] at h; cases h
    | none =>
      rw [pcS_2 e] at h
      obtain ⟨X, rfl⟩ : ∃ X : Nat, (X : Int) = x := ⟨x.toNat, by omega⟩
      rw [pgA_nat] at k1
      rcases k1 with k1 | k1
      · have := lsX_none.1 h (X / 32 * 32 + 4) (by omega)
        rw [Cd2_t.2 ⟨by rw [show (X / 32 * 32 + 4) / 32 = X / 32 by omega]; exact k1, by omega⟩] at this
        cases this
      · have := lsX_none.1 e X (by omega)
        rw [Cd1_t.2 ⟨k1, by rw [show ((X % 32 : Nat) : Int) = (X : Int) % 32 by omega]; exact s2', k2⟩] at this
        cases this
  · by_cases hl : 120 < n ∧ n ≤ 2048
    · rw [pc_large hr hl] at h
      have h : btO (kzN P l) (pgN n) = none := Option.map_eq_none_iff.1 h
      have hn2 : ¬ (⟨x, n⟩ : Spn).sz ≤ 120 := by show ¬ n ≤ 120; omega
      obtain ⟨_, hf⟩ := (hr.large hn2).1 hR
      obtain ⟨g1, g2⟩ := pgN_in hl
      obtain ⟨w1, w2⟩ := hin.within
      rw [pgK_large hn2] at w2
      have w2 : pgA ⟨x, n⟩ + pgN n ≤ P := w2
      obtain ⟨s, hs1, hs2, hs3⟩ := rn_hold (ks := kzN P l) (i := (pgA ⟨x, n⟩).toNat) (m := (pgN n).toNat) (by omega) (fun j hj => by
        rw [ka_kz (by omega)]
        refine hf _ ⟨by omega, ?_⟩
        rw [pgK_large hn2]
        show _ < pgA ⟨x, n⟩ + pgN n
        omega)
      have := bt_none h g1 s hs1
      omega
    · have := hin.len
      have h1 : 1 ≤ n ∧ n ≤ 2048 := ⟨this.1, this.2.1⟩
      omega

/-- The numbers of the objects below k that have a page. -/
def mtK (l : List Spn) (p : Int) (k : Nat) : List Int := ((List.range k).filter (fun i => decide (HasC (pa l i) p))).map (fun i => ((i : Nat) : Int))
def mtL (P : Int) (l : List Spn) (p : Int) : List Int := if RightO P l then mtK l p l.length else []
theorem mt_t {P : Int} {l : List Spn} {p : Int} (h : RightO P l) : mtL P l p = mtK l p l.length := if_pos h
theorem mt_f {P : Int} {l : List Spn} {p : Int} (h : ¬ RightO P l) : mtL P l p = [] := if_neg h
theorem mt_zero (l : List Spn) (p : Int) : mtK l p 0 = [] := rfl
theorem mt_yes {l : List Spn} {p : Int} {k : Nat} (h : HasC (pa l k) p) : mtK l p (k + 1) = mtK l p k ++ [(k : Int)] := by
  unfold mtK
  rw [List.range_succ, List.filter_append, List.filter_cons_of_pos (by simpa using h)]
  simp
theorem mt_no {l : List Spn} {p : Int} {k : Nat} (h : ¬ HasC (pa l k) p) : mtK l p (k + 1) = mtK l p k := by
  unfold mtK
  rw [List.range_succ, List.filter_append, List.filter_cons_of_neg (by simpa using h)]
  simp
theorem mt_len (l : List Spn) (p : Int) (k : Nat) : (mtK l p k).length ≤ k := by
  unfold mtK
  rw [List.length_map]
  exact Nat.le_trans (List.length_filter_le _ _) (by simp)
theorem mt_mem {l : List Spn} {p : Int} {k : Nat} {x : Int} : x ∈ mtK l p k ↔ ∃ i : Nat, i < k ∧ HasC (pa l i) p ∧ x = i := by
  unfold mtK
  simp only [List.mem_map, List.mem_filter, List.mem_range, decide_eq_true_eq]
  constructor
  · rintro ⟨i, ⟨h1, h2⟩, rfl⟩; exact ⟨i, h1, h2, rfl⟩
  · rintro ⟨i, h1, h2, rfl⟩; exact ⟨i, ⟨h1, h2⟩, rfl⟩
theorem mt_rise (l : List Spn) (p : Int) (k : Nat) : (mtK l p k).Pairwise (fun a b => a < b) := by
  unfold mtK
  rw [List.pairwise_map]
  refine List.Pairwise.imp ?_ ((List.pairwise_lt_range (n := k)).filter _)
  intro a b h
  omega
end Go.Proofs.YtlghhhhgfnnjgabDoor
