/- pages' take by its contract. -/
import Derived.Test.YtlghhhhgfnnjgabDoorHpA
import Derived.Deep.RegionHeld3
namespace Go.Proofs.YtlghhhhgfnnjgabDoor
set_option maxRecDepth 100000
open Go.RowKit
set_option linter.unusedVariables false
set_option linter.unusedSimpArgs false
set_option maxRecDepth 100000

theorem HpOk.parts {N : Nat} {s : HpS} {i j : Nat} {k : Int} : HpOk N s ⟨(i : Int), k, (j : Int)⟩ ↔ i < N ∧ (s.kd i = -1 ∨ s.kd i = k) ∧ s.tk i j = false := by
  unfold HpOk
  simp only [Int.toNat_natCast]
  constructor
  · rintro ⟨h1, h2, h3⟩; exact ⟨by omega, h2, h3⟩
  · rintro ⟨h1, h2, h3⟩; exact ⟨⟨by omega, by omega⟩, h2, h3⟩
def prtO (p : Blk) : Obj := .cells #[.int .i64 p.pos, .int .i64 p.sz, .int .i64 p.ix] 54
theorem take_out (b N : Nat) (s : HpS) (p : Blk) (w : World) (h : Hpb w b N s) (hN : N ≤ 64) (hp : ¬ (0 ≤ p.pos ∧ p.pos < N)) :
    Calls Tryd.prog 15 #[.pointer (some ⟨b, 0, none⟩), .agg #[.int .i64 p.pos, .int .i64 p.sz, .int .i64 p.ix]] w fun e w' => e = .returned (.bool false) ∧ Below w.heap.size w w' := by
  have hb0 : Below w.heap.size w (w.alloc (.cells #[.int .i64 p.pos, .int .i64 p.sz, .int .i64 p.ix] 54)) := (Below.refl _ _).alloc (Nat.le_refl _) _
  have h1 := h.kept hb0
  have c9 := h1.count
  have hlt := h.lt
  clear h h1
  obtain ⟨p, k, x⟩ := p
  simp only at *
  by_cases hneg : p < 0
  · have hd : decide (p < 0) = true := decide_eq_true hneg
    go_enter Tryd.func15, Tryd.ntmps15
    go_wp2
    go_quiet (fail)
    go_wp2
    go_ret
    exact ⟨rfl, below_drewN hb0 _⟩
  · have hd : decide (p < 0) = false := decide_eq_false hneg
    have hge : (N : Int) ≤ p := by omega
    have hd2 : decide ((N : Int) ≤ p) = true := decide_eq_true hge
    go_enter Tryd.func15, Tryd.ntmps15
    go_wp2
    go_quiet (fail)
    go_wp2
    go_ret
    exact ⟨rfl, below_drewN hb0 _⟩
set_option maxHeartbeats 1000000 in
theorem take_kind (b N i j : Nat) (k : Int) (s : HpS) (w : World) (h : Hpb w b N s) (hN : N ≤ 64) (hi : i < N) (hj : j < 32) (hk : s.kd i ≠ -1) (hk2 : s.kd i ≠ k) :
    Calls Tryd.prog 15 #[.pointer (some ⟨b, 0, none⟩), .agg #[.int .i64 (i : Int), .int .i64 k, .int .i64 (j : Int)]] w fun e w' => e = .returned (.bool false) ∧ Below w.heap.size w w' := by
  have hb0 : Below w.heap.size w (w.alloc (.cells #[.int .i64 (i : Int), .int .i64 k, .int .i64 (j : Int)] 54)) := (Below.refl _ _).alloc (Nat.le_refl _) _
  have h1 := h.kept hb0
  have c9 := h1.count
  have c0 := h1.kind hi hN
  have H1 := hid h1
  have HB := hid hb0
  have hlt := h.lt
  have hd1 : decide ((i : Int) < 0) = false := decide_eq_false (by omega)
  have hd1' : ¬ ((i : Int) < 0) := by omega
  have hd2 : decide ((N : Int) ≤ (i : Int)) = false := decide_eq_false (by omega)
  have hd2' : ¬ ((N : Int) ≤ (i : Int)) := by omega
  have hd2'' : ¬ (N ≤ i) := by omega
  have hi64 : (i : Int) < 64 := by omega
  have hi64' : i < 64 := by omega
  generalize s.kd i = v at *
  have hd3 : (v == -1) = false := by simpa using hk
  have hd4 : (v != k) = true := by simpa using hk2
  clear h h1 hk hk2
  go_enter Tryd.func15, Tryd.ntmps15
  go_wp2
  go_quiet (fail)
  go_wp2
  go_quiet (fail)
  go_wp2
  go_quiet (fail)
  go_wp2
  go_ret
  exact ⟨rfl, below_drewN (below_drewN hb0 _) _⟩
set_option maxHeartbeats 1000000 in
theorem take_word1 (b N i j : Nat) (k : Int) (s : HpS) (w : World) (h : Hpb w b N s) (hN : N ≤ 64) (hi : i < N) (hj : j < 32) (hk : s.kd i = k) (hk1 : k ≠ -1) (ht : s.tk i j = true) :
    Calls Tryd.prog 15 #[.pointer (some ⟨b, 0, none⟩), .agg #[.int .i64 (i : Int), .int .i64 k, .int .i64 (j : Int)]] w fun e w' => e = .returned (.bool false) ∧ Off (fun x => x = b) w w' := by
  have hb0 : Below w.heap.size w (w.alloc (.cells #[.int .i64 (i : Int), .int .i64 k, .int .i64 (j : Int)] 54)) := (Below.refl _ _).alloc (Nat.le_refl _) _
  have h1 := h.kept hb0
  have c9 := h1.count
  have c0 := h1.kind hi hN
  have c1 := h1.word (show i < 64 by omega) hj
  have f0 := h1.free (i * 33)
  have f1 := h1.free (i * 33 + 1 + j)
  have H1 := hid h1
  have HB := hid hb0
  have hlt := h.lt
  have hd1 : decide ((i : Int) < 0) = false := decide_eq_false (by omega)
  have hd1' : ¬ ((i : Int) < 0) := by omega
  have hd2 : decide ((N : Int) ≤ (i : Int)) = false := decide_eq_false (by omega)
  have hd2' : ¬ ((N : Int) ≤ (i : Int)) := by omega
  have hd2'' : ¬ (N ≤ i) := by omega
  have hi64 : (i : Int) < 64 := by omega
  have hi64' : i < 64 := by omega
  have hj32 : (j : Int) < 32 := by omega
  have hne : b ≠ w.heap.size := by omega
  have hne2 : i * 33 + 1 + j ≠ i * 33 := by omega
  have hne3 : i * 33 ≠ i * 33 + 1 + j := by omega
  rw [hk] at c0
  rw [ht] at c1
  have hd3 : (k == -1) = false := by simpa using hk1
  have hd4 : (k != k) = false := by simp
  clear h h1 hk hk1 ht
  go_enter Tryd.func15, Tryd.ntmps15
  go_wp2
  go_quiet (fail)
  go_wp2
  go_quiet (fail)
  go_wp2
  go_quiet (fail)
  go_wp2
  go_ret
  exact ⟨rfl, Off.of_below (below_drewN (below_drewN hb0 _) _)⟩
set_option maxHeartbeats 1000000 in
theorem take_word2 (b N i j : Nat) (k : Int) (s : HpS) (w : World) (h : Hpb w b N s) (hN : N ≤ 64) (hi : i < N) (hj : j < 32) (hk : s.kd i = -1) (ht : s.tk i j = true) :
    Calls Tryd.prog 15 #[.pointer (some ⟨b, 0, none⟩), .agg #[.int .i64 (i : Int), .int .i64 k, .int .i64 (j : Int)]] w fun e w' => e = .returned (.bool false) ∧ Off (fun x => x = b) w w' := by
  have hb0 : Below w.heap.size w (w.alloc (.cells #[.int .i64 (i : Int), .int .i64 k, .int .i64 (j : Int)] 54)) := (Below.refl _ _).alloc (Nat.le_refl _) _
  have h1 := h.kept hb0
  have c9 := h1.count
  have c0 := h1.kind hi hN
  have c1 := h1.word (show i < 64 by omega) hj
  have f0 := h1.free (i * 33)
  have f1 := h1.free (i * 33 + 1 + j)
  have H1 := hid h1
  have HB := hid hb0
  have hlt := h.lt
  have hd1 : decide ((i : Int) < 0) = false := decide_eq_false (by omega)
  have hd1' : ¬ ((i : Int) < 0) := by omega
  have hd2 : decide ((N : Int) ≤ (i : Int)) = false := decide_eq_false (by omega)
  have hd2' : ¬ ((N : Int) ≤ (i : Int)) := by omega
  have hd2'' : ¬ (N ≤ i) := by omega
  have hi64 : (i : Int) < 64 := by omega
  have hi64' : i < 64 := by omega
  have hj32 : (j : Int) < 32 := by omega
  have hne : b ≠ w.heap.size := by omega
  have hne2 : i * 33 + 1 + j ≠ i * 33 := by omega
  have hne3 : i * 33 ≠ i * 33 + 1 + j := by omega
  rw [hk] at c0
  rw [ht] at c1
  have hd4 : (k != k) = false := by simp
  clear h h1 hk ht
  go_enter Tryd.func15, Tryd.ntmps15
  go_wp2
  go_quiet (fail)
  go_wp2
  go_quiet (fail)
  go_wp2
  go_quiet (fail)
  go_wp2
  go_ret
  exact ⟨rfl, ((((Off.of_below (F := fun x => x = b) HB.out).drewN _).setCell ⟨b, i * 33, none⟩ _ rfl).drewN _)⟩
set_option maxHeartbeats 1000000 in
theorem take_one1 (b N i j : Nat) (k : Int) (s : HpS) (w : World) (h : Hpb w b N s) (hN : N ≤ 64) (hi : i < N) (hj : j < 32) (hk : s.kd i = k) (hk1 : k ≠ -1) (ht : s.tk i j = false) :
    Calls Tryd.prog 15 #[.pointer (some ⟨b, 0, none⟩), .agg #[.int .i64 (i : Int), .int .i64 k, .int .i64 (j : Int)]] w fun e w' => e = .returned (.bool true) ∧ Hpb w' b N (s.put ⟨(i : Int), k, (j : Int)⟩) ∧ Off (fun x => x = b) w w' := by
  have hb0 : Below w.heap.size w (w.alloc (.cells #[.int .i64 (i : Int), .int .i64 k, .int .i64 (j : Int)] 54)) := (Below.refl _ _).alloc (Nat.le_refl _) _
  have h1 := h.kept hb0
  have c9 := h1.count
  have c0 := h1.kind hi hN
  have c1 := h1.word (show i < 64 by omega) hj
  have f0 := h1.free (i * 33)
  have f1 := h1.free (i * 33 + 1 + j)
  have H1 := hid h1
  have HB := hid hb0
  have hlt := h.lt
  have hd1 : decide ((i : Int) < 0) = false := decide_eq_false (by omega)
  have hd1' : ¬ ((i : Int) < 0) := by omega
  have hd2 : decide ((N : Int) ≤ (i : Int)) = false := decide_eq_false (by omega)
  have hd2' : ¬ ((N : Int) ≤ (i : Int)) := by omega
  have hd2'' : ¬ (N ≤ i) := by omega
  have hi64 : (i : Int) < 64 := by omega
  have hi64' : i < 64 := by omega
  have hj32 : (j : Int) < 32 := by omega
  have hne : b ≠ w.heap.size := by omega
  have hne2 : i * 33 + 1 + j ≠ i * 33 := by omega
  have hne3 : i * 33 ≠ i * 33 + 1 + j := by omega
  rw [hk] at c0
  rw [ht] at c1
  have hd3 : (k == -1) = false := by simpa using hk1
  have hd4 : (k != k) = false := by simp
  have HK := hid hk
  clear h h1 hk hk1 ht
  go_enter Tryd.func15, Tryd.ntmps15
  go_wp2
  go_quiet (fail)
  go_wp2
  go_quiet (fail)
  go_wp2
  go_quiet (fail)
  go_wp2
  go_region
  all_goals go_wp2
  go_ret
  refine ⟨rfl, ?_, ((Off.of_below (F := fun x => x = b) HB.out).drewN _).setCell _ _ rfl⟩
  refine ((H1.out.kept (below_drewN (Below.refl _ _) _)).setW hi64' hj).eq (fun x hx => ?_) (fun x y _ _ => rfl)
  show s.kd x = if x = i then k else s.kd x
  by_cases e : x = i
  · rw [if_pos e, e]; exact HK.out
  · rw [if_neg e]
set_option maxHeartbeats 1000000 in
theorem take_one2 (b N i j : Nat) (k : Int) (s : HpS) (w : World) (h : Hpb w b N s) (hN : N ≤ 64) (hi : i < N) (hj : j < 32) (hk : s.kd i = -1) (ht : s.tk i j = false) :
    Calls Tryd.prog 15 #[.pointer (some ⟨b, 0, none⟩), .agg #[.int .i64 (i : Int), .int .i64 k, .int .i64 (j : Int)]] w fun e w' => e = .returned (.bool true) ∧ Hpb w' b N (s.put ⟨(i : Int), k, (j : Int)⟩) ∧ Off (fun x => x = b) w w' := by
  have hb0 : Below w.heap.size w (w.alloc (.cells #[.int .i64 (i : Int), .int .i64 k, .int .i64 (j : Int)] 54)) := (Below.refl _ _).alloc (Nat.le_refl _) _
  have h1 := h.kept hb0
  have c9 := h1.count
  have c0 := h1.kind hi hN
  have c1 := h1.word (show i < 64 by omega) hj
  have f0 := h1.free (i * 33)
  have f1 := h1.free (i * 33 + 1 + j)
  have H1 := hid h1
  have HB := hid hb0
  have hlt := h.lt
  have hd1 : decide ((i : Int) < 0) = false := decide_eq_false (by omega)
  have hd1' : ¬ ((i : Int) < 0) := by omega
  have hd2 : decide ((N : Int) ≤ (i : Int)) = false := decide_eq_false (by omega)
  have hd2' : ¬ ((N : Int) ≤ (i : Int)) := by omega
  have hd2'' : ¬ (N ≤ i) := by omega
  have hi64 : (i : Int) < 64 := by omega
  have hi64' : i < 64 := by omega
  have hj32 : (j : Int) < 32 := by omega
  have hne : b ≠ w.heap.size := by omega
  have hne2 : i * 33 + 1 + j ≠ i * 33 := by omega
  have hne3 : i * 33 ≠ i * 33 + 1 + j := by omega
  rw [hk] at c0
  rw [ht] at c1
  have hd4 : (k != k) = false := by simp
  clear h h1 hk ht
  go_enter Tryd.func15, Tryd.ntmps15
  go_wp2
  go_quiet (fail)
  go_wp2
  go_quiet (fail)
  go_wp2
  go_quiet (fail)
  go_wp2
  go_region
  all_goals go_wp2
  go_ret
  exact ⟨rfl, (((H1.out.kept (below_drewN (Below.refl _ _) _)).setK hi hN k).kept (below_drewN (Below.refl _ _) _)).setW hi64' hj, ((((Off.of_below (F := fun x => x = b) HB.out).drewN _).setCell ⟨b, i * 33, none⟩ _ rfl).drewN _).setCell ⟨b, i * 33 + 1 + j, none⟩ _ rfl⟩
/-- A part taken; one that can't be. -/
theorem take_t (b N : Nat) (s : HpS) (p : Blk) (w : World) (h : Hpb w b N s) (hN : N ≤ 64) (hx : 0 ≤ p.ix ∧ p.ix < 32) (hz : p.sz ≠ -1) (hp : HpOk N s p) :
    Calls Tryd.prog 15 #[.pointer (some ⟨b, 0, none⟩), .agg #[.int .i64 p.pos, .int .i64 p.sz, .int .i64 p.ix]] w fun e w' => e = .returned (.bool true) ∧ Hpb w' b N (s.put p) ∧ Off (fun x => x = b) w w' := by
  obtain ⟨q, k, x⟩ := p
  simp only at *
  obtain ⟨i, rfl⟩ := Int.eq_ofNat_of_zero_le hp.1.1
  obtain ⟨j, rfl⟩ := Int.eq_ofNat_of_zero_le hx.1
  obtain ⟨h1, h2, h3⟩ := HpOk.parts.1 hp
  by_cases hk : s.kd i = -1
  · exact take_one2 b N i j k s w h hN h1 (by omega) hk h3
  · have hk2 : s.kd i = k := h2.resolve_left hk
    exact take_one1 b N i j k s w h hN h1 (by omega) hk2 (by rw [← hk2]; exact hk) h3
theorem take_f (b N : Nat) (s : HpS) (p : Blk) (w : World) (h : Hpb w b N s) (hN : N ≤ 64) (hx : 0 ≤ p.ix ∧ p.ix < 32) (hp : ¬ HpOk N s p) :
    Calls Tryd.prog 15 #[.pointer (some ⟨b, 0, none⟩), .agg #[.int .i64 p.pos, .int .i64 p.sz, .int .i64 p.ix]] w fun e w' => e = .returned (.bool false) ∧ Off (fun x => x = b) w w' := by
  by_cases hin : 0 ≤ p.pos ∧ p.pos < N
  · obtain ⟨q, k, x⟩ := p
    simp only at *
    obtain ⟨i, rfl⟩ := Int.eq_ofNat_of_zero_le hin.1
    obtain ⟨j, rfl⟩ := Int.eq_ofNat_of_zero_le hx.1
    rw [HpOk.parts] at hp
    by_cases hk : s.kd i = -1
    · have ht : s.tk i j = true := by
        cases e : s.tk i j with
        | true => rfl
        | false => exact absurd ⟨by omega, .inl hk, e⟩ hp
      exact take_word2 b N i j k s w h hN (by omega) (by omega) hk ht
    · by_cases hk2 : s.kd i = k
      · have ht : s.tk i j = true := by
          cases e : s.tk i j with
          | true => rfl
          | false => exact absurd ⟨by omega, .inr hk2, e⟩ hp
        exact take_word1 b N i j k s w h hN (by omega) (by omega) hk2 (by rw [← hk2]; exact hk) ht
      · exact (take_kind b N i j k s w h hN (by omega) (by omega) hk hk2).mono fun e w' ⟨h1, h2⟩ => ⟨h1, Off.of_below h2⟩
  · exact (take_out b N s p w h hN hin).mono fun e w' ⟨h1, h2⟩ => ⟨h1, Off.of_below h2⟩
end Go.Proofs.YtlghhhhgfnnjgabDoor
