/- Where a further small object goes, found page by page and cell by cell. -/
import Derived.Test.YtlghhhhgfnnjgabDoorPlcM
namespace Go.Proofs.YtlghhhhgfnnjgabDoor
set_option maxRecDepth 100000
set_option linter.unusedVariables false
set_option linter.unusedSimpArgs false

theorem ctN_in {c k : Int} (h : CtOk c k) : 4 ≤ ctN c k ∧ ctN c k < 32 := by
  obtain ⟨w1, w2, m1, m2, f1, f2⟩ := cls_in h.cls
  rw [(ct_t h).1]
  have h1 := Int.mul_le_mul_of_nonneg_left (show k + 1 ≤ ceN c from h.2) (show 0 ≤ wdN c by omega)
  rw [Int.mul_add, Int.mul_one, Int.mul_comm (wdN c) k] at h1
  have h2 := Int.mul_nonneg h.1 (show 0 ≤ wdN c by omega)
  omega
theorem ctN_lt {c k j : Int} (h : CtOk c k) (hj : CtOk c j) (hl : ctN c j < ctN c k) : j < k := by
  obtain ⟨w1, w2, _⟩ := cls_in h.cls
  rw [(ct_t h).1, (ct_t hj).1] at hl
  apply Decidable.byContradiction
  intro hn
  have := Int.mul_le_mul_of_nonneg_right (show k ≤ j by omega) (show 0 ≤ wdN c by omega)
  omega
theorem ctN_0 {c : Int} (h : 0 ≤ c ∧ c < 6) : CtOk c 0 ∧ ctN c 0 = 4 := by
  obtain ⟨_, _, m1, _⟩ := cls_in h
  have hk : CtOk c 0 := ⟨by omega, by omega⟩
  exact ⟨hk, by rw [(ct_t hk).1]; omega⟩
/-- The word where cell k of page i begins, of class c. -/
def cwN (c : Int) (i : Nat) (k : Nat) : Int := 32 * i + ctN c k
theorem cd1_other {l : List Spn} {c i y : Nat} (h : kdL l i ≠ c) (hy : y / 32 = i) : Cd1 l c y = false := by
  refine Bool.eq_false_iff.2 fun e => ?_
  rw [Cd1_t, hy] at e
  exact h e.1
/-- A word of page i that fits is that of a free cell. -/
theorem cd1_cell {l : List Spn} {c i y : Nat} (hc : c < 6) (hy : y / 32 = i) (e : Cd1 l c y = true) : kdL l i = c ∧ ∃ k : Nat, (k : Int) < ceN c ∧ cwN c i k = y ∧ ocB l (cwN c i k) = false := by
  obtain ⟨e1, e2, e3⟩ := Cd1_t.1 e
  rw [hy] at e1
  obtain ⟨hk, he⟩ := ct_wh e2
  obtain ⟨k0, k1⟩ := hk
  have ek : ((whN c ((y % 32 : Nat) : Int)).toNat : Int) = whN c ((y % 32 : Nat) : Int) := by omega
  have ew : cwN c i (whN c ((y % 32 : Nat) : Int)).toNat = y := by
    unfold cwN
    rw [ek, he]
    omega
  refine ⟨e1, _, by rw [ek]; exact k1, ew, ?_⟩
  rw [ew]
  exact ocB_f e3
theorem cd1_done {l : List Spn} {c i y : Nat} (hc : c < 6) (h : ∀ k : Nat, (k : Int) < ceN c → ocB l (cwN c i k) = true) (hy : y / 32 = i) : Cd1 l c y = false := by
  refine Bool.eq_false_iff.2 fun e => ?_
  obtain ⟨_, k, h1, h2, h3⟩ := cd1_cell hc hy e
  rw [h k h1] at h3
  cases h3
theorem cwN_ok {c i k N : Nat} (hc : c < 6) (hk : (k : Int) < ceN c) (hi : i < N) : 0 ≤ cwN c i k ∧ cwN c i k < 32 * N ∧ (cwN c i k).toNat / 32 = i ∧ (((cwN c i k).toNat % 32 : Nat) : Int) = ctN c k := by
  have hok : CtOk (c : Int) (k : Int) := ⟨by omega, hk⟩
  obtain ⟨h1, h2⟩ := ctN_in hok
  unfold cwN
  refine ⟨by omega, by omega, by omega, by omega⟩
theorem cd1_found {l : List Spn} {c i k N : Nat} (hc : c < 6) (hi : i < N) (hk : (k : Int) < ceN c) (hd : kdL l i = c) (hf : ocB l (cwN c i k) = false)
    (hp : ∀ j, j < k → ocB l (cwN c i j) = true) (ha : ∀ y, y < 32 * i → Cd1 l c y = false) : lsX (32 * N) (Cd1 l c) = some (cwN c i k).toNat := by
  have hok : CtOk (c : Int) (k : Int) := ⟨by omega, hk⟩
  obtain ⟨a1, a2, a3, a4⟩ := cwN_ok hc hk hi
  refine lsX_some.2 ⟨by omega, ?_, fun y hy => ?_⟩
  · rw [Cd1_t, a3, a4]
    refine ⟨hd, (wh_ct hok).1, ?_⟩
    have := ocB_no hf
    rwa [show ((cwN c i k).toNat : Int) = cwN c i k by omega]
  · by_cases hyi : y / 32 = i
    · refine Bool.eq_false_iff.2 fun e => ?_
      obtain ⟨_, j, h1, h2, h3⟩ := cd1_cell hc hyi e
      have hj : CtOk (c : Int) (j : Int) := ⟨by omega, h1⟩
      have : (j : Int) < k := ctN_lt hok hj (by unfold cwN at h2 hy; omega)
      rw [hp j (by omega)] at h3
      cases h3
    · exact ha y (by omega)
theorem cd2_found {l : List Spn} {i N : Nat} (hi : i < N) (hd : kdL l i = -1) (ha : ∀ j, j < i → kdL l (j : Nat) ≠ -1) : lsX (32 * N) (Cd2 l) = some (32 * i + 4) := by
  refine lsX_some.2 ⟨by omega, ?_, fun y hy => ?_⟩
  · rw [Cd2_t, show (32 * i + 4) / 32 = i by omega]
    exact ⟨hd, by omega⟩
  · refine Bool.eq_false_iff.2 fun e => ?_
    obtain ⟨e1, e2⟩ := Cd2_t.1 e
    exact ha (y / 32) (by omega) e1
theorem cd2_none {l : List Spn} {N : Nat} (ha : ∀ j, j < N → kdL l (j : Nat) ≠ -1) : lsX (32 * N) (Cd2 l) = none := by
  refine lsX_none.2 fun y hy => ?_
  refine Bool.eq_false_iff.2 fun e => ?_
  obtain ⟨e1, e2⟩ := Cd2_t.1 e
  exact ha (y / 32) (by omega) e1
theorem pc_first {N : Nat} {l : List Spn} {n : Int} (h : RightO N l) (hn : 1 ≤ n ∧ n ≤ 120) {x : Nat} (hx : lsX (32 * N) (Cd1 l (clN n)) = some x) : pcN N l n = x ∧ pcB N l n = true := by
  refine pc_t ?_
  rw [pc_small h hn, pcS_1 (by rw [show (N : Int).toNat = N by omega]; exact hx)]
  rfl
theorem pc_second {N : Nat} {l : List Spn} {n : Int} (h : RightO N l) (hn : 1 ≤ n ∧ n ≤ 120) (h1 : lsX (32 * N) (Cd1 l (clN n)) = none) {x : Nat} (hx : lsX (32 * N) (Cd2 l) = some x) : pcN N l n = x ∧ pcB N l n = true := by
  refine pc_t ?_
  rw [pc_small h hn, pcS_2 (by rw [show (N : Int).toNat = N by omega]; exact h1), show (N : Int).toNat = N by omega, hx]
  rfl
theorem pc_nowhere {N : Nat} {l : List Spn} {n : Int} (h : RightO N l) (hn : 1 ≤ n ∧ n ≤ 120) (h1 : lsX (32 * N) (Cd1 l (clN n)) = none) (h2 : lsX (32 * N) (Cd2 l) = none) : pcN N l n = 0 ∧ pcB N l n = false := by
  refine pc_f ?_
  rw [pc_small h hn, pcS_2 (by rw [show (N : Int).toNat = N by omega]; exact h1), show (N : Int).toNat = N by omega, h2]
  rfl
theorem pc_big {P : Int} {l : List Spn} {n : Int} (h : RightO P l) (hn : 120 < n ∧ n ≤ 2048) : pcN P l n = 32 * btN (kzN P l) (pgN n) ∧ pcB P l n = btB (kzN P l) (pgN n) := by
  unfold pcN pcB
  rw [pc_large h hn]
  cases e : btO (kzN P l) (pgN n) with
  | none => rw [(bt_f e).1, (bt_f e).2]; exact ⟨rfl, rfl⟩
  | some s => rw [(bt_t e).1, (bt_t e).2]; exact ⟨rfl, rfl⟩
theorem btN_rg {P : Int} {l : List Spn} (hP : 0 ≤ P ∧ P ≤ 64) (n : Int) : 0 ≤ btN (kzN P l) n ∧ btN (kzN P l) n ≤ 64 := by
  cases e : btO (kzN P l) n with
  | none => rw [(bt_f e).1]; omega
  | some s =>
    rw [(bt_t e).1]
    obtain ⟨_, b2, _, _⟩ := bt_some e
    obtain ⟨r1, r2, r3⟩ := rn_rg (k := (kzN P l).length) (by rw [kzN_len]; omega) s b2
    rw [kzN_len] at r3
    omega
end Go.Proofs.YtlghhhhgfnnjgabDoor
