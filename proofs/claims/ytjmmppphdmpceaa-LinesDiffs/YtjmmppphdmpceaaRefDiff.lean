/- joistref04.Diff by its contract. -/
import Derived.Test.YtjmmppphdmpceaaDiffP
import Derived.Test.YtjmmppphdmpceaaApp
namespace Go.Proofs.Ytjmmppphdmpceaa
open Go.RowKit
set_option linter.unusedVariables false

theorem slice_len {ao : Option Addr} {m m' c : Nat} (h : m = m') : Value.slice ao m c = .slice ao m' c := by rw [h]
theorem refdiff_bad (ao : Option Addr) (n cap : Nat) (bo : Option Addr) (m c : Nat) (w : World) (hn : n ≤ 9223372036854775807) (hm : m ≤ 9223372036854775807) (h : ¬ (n % 64 = 0 ∧ n = m)) :
    Calls Try.prog 13 #[.slice ao n cap, .slice bo m c] w fun e w' => e = .returned (.tuple #[.slice none 0 0, .int .i64 1]) ∧ w = w' := by
  by_cases h1 : n = m
  · subst h1
    have h2 : ((n : Int) % 64 != 0) = true := by simp; omega
    go_enter Try.func13, Try.ntmps13
    go_wp2
    go_ret2
    exact ⟨rfl, rfl⟩
  · have h3 : ((n : Int) != (m : Int)) = true := by simp; omega
    go_enter Try.func13, Try.ntmps13
    go_wp2
    go_ret2
    exact ⟨rfl, rfl⟩

set_option maxRecDepth 100000 in
theorem refdiff_good (ao : Option Addr) (n cap : Nat) (xs : List Int) (bo : Option Addr) (c : Nat) (ys : List Int) (w : World) (hx : Sl .u8 w ao n cap xs) (hy : Sl .u8 w bo n c ys) (bx : Bytes xs) (by_ : Bytes ys)
    (h64 : n % 64 = 0) (hn : n ≤ 140737488355328) (hc1 : cap ≤ 9223372036854775807) (hc2 : c ≤ 9223372036854775807) :
    Calls Try.prog 13 #[.slice ao n cap, .slice bo n c] w fun e w' => ∃ lo k lc D, e = .returned (.tuple #[.slice lo k lc, .int .i64 0]) ∧ OwnC w.heap.size w' lo k lc D ∧ saysN D k = diffN xs ys (n / 64) ∧ Below w.heap.size w w' := by
  have h9 : n ≤ 9223372036854775807 := by omega
  have h2 : ((n : Int) % 64 != 0) = false := by simp; omega
  have lx := hx.len
  have ly := hy.len
  obtain ⟨N, rfl⟩ : ∃ N, n = 64 * N := ⟨n / 64, by omega⟩
  have hN : 64 * N / 64 = N := by omega
  have hN' : ((64 * N : Nat) : Int) / 64 = N := by omega
  rw [hN]
  go_enter Try.func13, Try.ntmps13
  go_wp2
  go_loopw [6, 7] (fun q t wr => ∃ (i : Nat) (lo : Option Addr) (k lc : Nat) (D : Nat → ChD), i ≤ N ∧ t = .int .i64 i ∧ q = .slice lo k lc ∧ OwnC w.heap.size wr lo k lc D ∧ Hid (saysN D k = diffN xs ys i) ∧ Below w.heap.size w wr) (fun _ t _ => N - (intOf t).toNat)
  case atStart => exact ⟨0, none, 0, 0, default, Nat.zero_le _, rfl, rfl, ownC_nil _ _ _, hid rfl, Below.refl _ _⟩
  case round =>
    obtain ⟨i, lo, k, lc, D, hi, rfl, rfl, hown, hsay, hbl⟩ := hrel
    by_cases hlt : i < N
    · obtain ⟨b1, o1, rfl, _, _⟩ := hx.here (by omega)
      obtain ⟨b2, o2, rfl, _, _⟩ := hy.here (by omega)
      have hj : 64 * i + 64 ≤ 64 * N := by omega
      have rx := hx.room
      have ry := hy.room
      have px := part_lin (hx.below hbl) hj
      have py := part_lin (hy.below hbl) hj
      have qx := lin_bytes bx i
      have qy := lin_bytes by_ i
      have hkl : k ≤ i := by have := diffN_length xs ys i; rw [← hsay.out, saysN_length] at this; exact this
      have hb32 : (k + 1) * 32 ≤ 140737488355328 := by omega
      have hBr := hbl.size
      have hii : (i : Int) < ((64 * N : Nat) : Int) / 64 := by omega
      have HS : Hid (eqB (lin xs i) (lin ys i) = true → diffN xs ys (i + 1) = diffN xs ys i) := diffN_same
      have HE : Hid (eqB (lin xs i) (lin ys i) = false → diffN xs ys (i + 1) = diffN xs ys i ++ [((i : Int), lin ys i)]) := diffN_else
      generalize hX : lin xs i = X at *
      generalize hY : lin ys i = Y at *
      clear hx hy
      have hrg : Rg (i : Int) := ⟨by omega, by omega⟩
      have tx := px.text (P := Try.prog) Try.underlying22 Try.underlying5 Try.underlying9
      have ty := py.text (P := Try.prog) Try.underlying22 Try.underlying5 Try.underlying9
      have g1 : ¬ cap = 64 * i := by omega
      have g2 : ¬ c = 64 * i := by omega
      have g3 : 64 * (i + 1) - 64 * i = 64 := by omega
      clear px
      by_cases he : eqB X Y = true
      · have heq : ((strOfNums X).toList == (strOfNums Y).toList) = true := by rw [text_eq qx qy]; exact he
        go_wp2
        go_roundw
        case rel => exact ⟨i + 1, lo, k, lc, D, by omega, by go_num, rfl, hown, hid (by rw [HS.out he]; exact hsay.out), hbl⟩
        case measure => simp [intOf]; omega
      · have he' : eqB X Y = false := by simpa using he
        have heq : ((strOfNums X).toList == (strOfNums Y).toList) = false := by rw [text_eq qx qy]; exact he'
        have hb0 : Below wr.heap.size wr (wr.alloc (.cells #[] 5)) := (Below.refl _ _).alloc (Nat.le_refl _) _
        have hmade : (wr.alloc (.cells #[] 5)).ownsRow wr.heap.size 5 1 (.slice (some ⟨wr.heap.size, 0, none⟩) 0 0) 0 (([] : List Int).map (Value.int .u8)) := World.ownsRow_made wr #[] 0 (Nat.le_refl _) (Nat.zero_le _) rfl
        have py0 := py.below hb0
        have hs0 : wr.heap.size ≤ (wr.alloc (.cells #[] 5)).heap.size := by simp
        have n64 : 0 + 64 ≤ 140737488355328 := by omega
        go_wp2_with (first
          | (at_builtin; refine append_sl rfl (.tmp 49) (.tmp 50) rfl wr.heap.size _ 0 [] rfl hmade _ 64 _ Y (slice_len g3) py0 n64 hs0 ?_; intro bo1 c1 w1 hcp hgr1 _;
             have hb1 : Below wr.heap.size wr w1 := hb0.grown hgr1 hs0 (fun b hb' => (hmade.lt b hb').1);
             have hbA : Below w1.heap.size w1 (w1.alloc (.cells #[.int .i64 i, .slice bo1 64 c1] 42)) := (Below.refl _ _).alloc (Nat.le_refl _) _;
             have hownA := (hown.below hb1).below hbA;
             have hcpA := (hcp.below hbA).mono hBr;
             have hblA := next (next hbl hb1) hbA;
             have hszA := hblA.size)
          | (at_builtin; refine append_chg rfl (.tmp 47) (.tmp 53) rfl w.heap.size lo k lc D rfl hownA ⟨w1.heap.size, 0, none⟩ 1 ⟨i, bo1, 64, c1, Y⟩ rfl (by simp) (by simp [Addr.add_lit]) ⟨by simpa using hcpA, hrg, qy⟩ hb32 hszA ?_; intro bo' c' w' hown' hgrow; have hb' := hblA.grown hgrow hszA (fun b hb' => (hownA.row.lt b hb').1)))
        go_roundw
        case rel => exact ⟨i + 1, bo', k + 1, c', _, by omega, by go_num, rfl, hown', hid (by rw [put1_says, hsay.out, HE.out he']; rfl), hb'⟩
        case measure => simp [intOf]; omega
    · obtain rfl : i = N := by omega
      go_wp2
      go_ret2
      exact ⟨lo, k, lc, D, rfl, hown, hsay.out, hbl⟩
end Go.Proofs.Ytjmmppphdmpceaa
