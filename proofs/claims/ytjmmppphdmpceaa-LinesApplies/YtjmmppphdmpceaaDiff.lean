/- lines.Diff by its contract. -/
import Derived.Test.YtjmmppphdmpceaaDiffP
namespace Go.Proofs.Ytjmmppphdmpceaa
open Go.RowKit
set_option linter.unusedVariables false

theorem diff_bad (ao : Option Addr) (n cap : Nat) (bo : Option Addr) (m c : Nat) (w : World) (hn : n ≤ 9223372036854775807) (hm : m ≤ 9223372036854775807) (h : ¬ (n % 64 = 0 ∧ n = m)) :
    Calls Try.prog 10 #[.slice ao n cap, .slice bo m c] w fun e w' => e = .returned (.tuple #[.slice none 0 0, .int .i64 1]) ∧ w = w' := by
  by_cases h1 : n % 64 = 0
  · have h2 : imgB n = true := by simp [imgB, h1]
    have h3 : ((n : Int) != (m : Int)) = true := by simp; omega
    go_enter Try.func10, Try.ntmps10
    go_wp2_with (go_at_call 22; with_reducible refine (isImage_any _ _ _ _ hn).mono ?_; rintro e w' ⟨rfl, rfl⟩; rw [h2])
    go_ret2
    exact ⟨rfl, rfl⟩
  · have h2 : imgB n = false := by simp [imgB, h1]
    go_enter Try.func10, Try.ntmps10
    go_wp2_with (go_at_call 22; with_reducible refine (isImage_any _ _ _ _ hn).mono ?_; rintro e w' ⟨rfl, rfl⟩; rw [h2])
    go_ret2
    exact ⟨rfl, rfl⟩

set_option maxRecDepth 100000 in
theorem diff_good (ao : Option Addr) (n cap : Nat) (xs : List Int) (bo : Option Addr) (c : Nat) (ys : List Int) (w : World) (hx : Sl .u8 w ao n cap xs) (hy : Sl .u8 w bo n c ys) (bx : Bytes xs) (by_ : Bytes ys)
    (h64 : n % 64 = 0) (hn : n ≤ 140737488355328) (hc1 : cap ≤ 9223372036854775807) (hc2 : c ≤ 9223372036854775807) :
    Calls Try.prog 10 #[.slice ao n cap, .slice bo n c] w fun e w' => ∃ lo k lc D, e = .returned (.tuple #[.slice lo k lc, .int .i64 0]) ∧ OwnC w.heap.size w' lo k lc D ∧ saysN D k = diffN xs ys (n / 64) ∧ Below w.heap.size w w' := by
  have h9 : n ≤ 9223372036854775807 := by omega
  have h2 : imgB n = true := by simp [imgB, h64]
  have lx := hx.len
  have ly := hy.len
  obtain ⟨N, hN⟩ : ∃ N, n / 64 = N := ⟨_, rfl⟩
  rw [hN]
  go_enter Try.func10, Try.ntmps10
  go_wp2_with (first
    | (go_at_call 22; with_reducible refine (isImage_any _ _ _ _ h9).mono ?_; rintro e w' ⟨rfl, rfl⟩; rw [h2])
    | (go_at_call 23; with_reducible refine (count_any _ _ _ _ h9).mono ?_; rintro e w' ⟨rfl, rfl⟩; rw [hN]))
  go_loopw [6, 21] (fun q t wr => ∃ (i : Nat) (lo : Option Addr) (k lc : Nat) (D : Nat → ChD), i ≤ N ∧ t = .int .i64 i ∧ q = .slice lo k lc ∧ OwnC w.heap.size wr lo k lc D ∧ Hid (saysN D k = diffN xs ys i) ∧ Below w.heap.size w wr) (fun _ t _ => N - (intOf t).toNat)
  case atStart => exact ⟨0, none, 0, 0, default, Nat.zero_le _, rfl, rfl, ownC_nil _ _ _, hid rfl, Below.refl _ _⟩
  case round =>
    obtain ⟨i, lo, k, lc, D, hi, rfl, rfl, hown, hsay, hbl⟩ := hrel
    by_cases hlt : i < N
    · obtain ⟨b1, o1, rfl, _, _⟩ := hx.here (by omega)
      obtain ⟨b2, o2, rfl, _, _⟩ := hy.here (by omega)
      have hj : 64 * i + 64 ≤ n := by omega
      have rx := hx.room
      have ry := hy.room
      have px := part_lin (hx.below hbl) hj
      have py := part_lin (hy.below hbl) hj
      have qx := lin_bytes bx i
      have qy := lin_bytes by_ i
      have hkl : k ≤ i := by have := diffN_length xs ys i; rw [← hsay.out, saysN_length] at this; exact this
      have hb32 : (k + 1) * 32 ≤ 140737488355328 := by omega
      have hBr := hbl.size
      have hii : (i : Int) < (N : Int) := by omega
      have HS : Hid (eqB (lin xs i) (lin ys i) = true → diffN xs ys (i + 1) = diffN xs ys i) := diffN_same
      have HE : Hid (eqB (lin xs i) (lin ys i) = false → diffN xs ys (i + 1) = diffN xs ys i ++ [((i : Int), lin ys i)]) := diffN_else
      have hly : (lin ys i).length = 64 := lin_length (by omega)
      generalize hX : lin xs i = X at *
      generalize hY : lin ys i = Y at *
      clear hx hy
      have hrg : Rg (i : Int) := ⟨by omega, by omega⟩
      have n64 : 64 ≤ 140737488355328 := by omega
      have tokA : True := trivial
      by_cases he : eqB X Y = true
      · go_wp2_with (first
          | (go_at_call 24; have _t := tokA; with_reducible refine (line_any b2 o2 n c i _ hj ry hc2).mono ?_; rintro e w' ⟨rfl, rfl⟩; clear tokA)
          | (go_at_call 24; with_reducible refine (line_any b1 o1 n cap i _ hj rx hc1).mono ?_; rintro e w' ⟨rfl, rfl⟩)
          | (go_at_call 25; with_reducible refine (equal_any _ _ _ X _ _ _ Y _ px py qx qy).mono ?_; rintro e w' ⟨rfl, rfl⟩; rw [he]))
        go_roundw
        case rel => exact ⟨i + 1, lo, k, lc, D, by omega, by go_num, rfl, hown, hid (by rw [HS.out he]; exact hsay.out), hbl⟩
        case measure => simp [intOf]; omega
      · have he' : eqB X Y = false := by simpa using he
        go_wp2_with (first
          | (go_at_call 24; have _t := tokA; with_reducible refine (line_any b2 o2 n c i _ hj ry hc2).mono ?_; rintro e w' ⟨rfl, rfl⟩; clear tokA)
          | (go_at_call 24; with_reducible refine (line_any b1 o1 n cap i _ hj rx hc1).mono ?_; rintro e w' ⟨rfl, rfl⟩)
          | (go_at_call 25; with_reducible refine (equal_any _ _ _ X _ _ _ Y _ px py qx qy).mono ?_; rintro e w' ⟨rfl, rfl⟩; rw [he'])
          | (go_at_call 26; with_reducible refine (copied_any _ _ _ Y _ py n64).mono ?_; rintro e w1 ⟨rfl, hcp, hb1⟩;
             have hbA : Below w1.heap.size w1 (w1.alloc (.cells #[.int .i64 i, .slice (some ⟨wr.heap.size, 0, none⟩) 64 64] 42)) := (Below.refl _ _).alloc (Nat.le_refl _) _;
             have hownA := (hown.below hb1).below hbA;
             have hcpA := (hcp.below hbA).mono hBr;
             have hblA := next (next hbl hb1) hbA;
             have hszA := hblA.size)
          | (at_builtin; refine append_chg rfl (.tmp 33) (.tmp 38) rfl w.heap.size lo k lc D rfl hownA ⟨w1.heap.size, 0, none⟩ 1 ⟨i, some ⟨wr.heap.size, 0, none⟩, 64, 64, Y⟩ rfl (by simp) (by simp [Addr.add_lit]) ⟨hcpA, hrg, qy⟩ hb32 hszA ?_; intro bo' c' w' hown' hgrow; have hb' := hblA.grown hgrow hszA (fun b hb' => (hownA.row.lt b hb').1)))
        go_roundw
        case rel => exact ⟨i + 1, bo', k + 1, c', _, by omega, by go_num, rfl, hown', hid (by rw [put1_says, hsay.out, HE.out he']; rfl), hb'⟩
        case measure => simp [intOf]; omega
    · obtain rfl : i = N := by omega
      go_wp2
      go_ret2
      exact ⟨lo, k, lc, D, rfl, hown, hsay.out, hbl⟩
end Go.Proofs.Ytjmmppphdmpceaa
