/- joistref13.Best by its contract. -/
import Derived.Test.YtlghhhhgfnnjgaaDoorRefPagB
namespace Go.Proofs.YtlghhhhgfnnjgaaDoor
set_option maxRecDepth 100000
open Go.RowKit
set_option linter.unusedVariables false
set_option linter.unusedSimpArgs false
set_option maxRecDepth 100000

set_option maxHeartbeats 1000000 in
theorem rbestK_sl (ao : Option Addr) (n cap : Nat) (ks : List Int) (z : Int) (w : World) (h : Sl .i64 w ao n cap ks) (hn : n ≤ 1048576) :
    Calls Tryd.prog 19 #[.slice ao n cap, .int .i64 z] w fun e w' => e = .returned (.tuple #[.int .i64 (btN ks z), .bool (btB ks z)]) ∧ Below w.heap.size w w' := by
  have hl := h.len
  have cR := rruns_sl ao n cap ks w h hn
  have hm0 : (rnL ks).length ≤ n := by rw [← hl]; exact rn_len ks ks.length
  have HBT : Hid (∀ k b, k < (rnL ks).length → bsK z (rnL ks) k = some b → (BtrP (pa (rnL ks) k) b ↔ (pa (rnL ks) k).sz < b.sz)) := hid (fun k b hk hb => bs_step_lt hk hb)
  have HAN : Hid (1 ≤ z → ∀ r, bsK z (rnL ks) (rnL ks).length = r → btN ks z = (r.getD Spn.z).pos ∧ btB ks z = r.isSome) := hid (fun hz r hr => by
    unfold btN btB btO bsO
    rw [if_pos hz, hr]
    exact ⟨rfl, rfl⟩)
  have HAS : Hid (z < 1 → btN ks z = 0 ∧ btB ks z = false) := hid (fun hz => bt_f (bt_small hz))
  clear h
  generalize btN ks z = an at *
  generalize btB ks z = ab at *
  generalize rnL ks = R at *
  go_enter Tryd.func19, Tryd.ntmps19
  go_wp2_with (go_at_call 22; with_reducible refine cR.mono ?_; rintro e w1 ⟨bo, m, c, rfl, ho1, hb1⟩; have HO1 := hid ho1; clear ho1)
  have hps := HO1.out.ps
  have hlm := hps.len
  by_cases hz1 : z < 1
  · go_loopw [7, 8] (fun s7 s8 wr => ∃ (i : Nat), i ≤ m ∧ s7 = .int .i64 (-1) ∧ s8 = .int .i64 i ∧ Below w1.heap.size w1 wr) (fun _ s8 _ => m - (intOf s8).toNat)
    case atStart => exact ⟨0, Nat.zero_le _, rfl, rfl, Below.refl _ _⟩
    case round =>
      obtain ⟨i, hi, rfl, rfl, hbq⟩ := hrel
      by_cases hlt : i < m
      · obtain ⟨b, o, rfl, _, _⟩ := hps.here (by omega)
        obtain ⟨c0, c1⟩ := hps.at hbq hlt
        have hki : (i : Int) < (m : Int) := by omega
        generalize pa R i = s at *
        obtain ⟨p, y⟩ := s
        simp only at c0 c1
        have hz0 : ¬ 1 ≤ z := by omega
        have hz2 : decide (1 ≤ z) = false := decide_eq_false hz0
        clear HBT HAN HAS HO1 hps
        by_cases hy : z ≤ y
        · have hy2 : decide (z ≤ y) = true := decide_eq_true hy
          go_wp2
          go_quiet (fail)
          go_wp2
          go_roundw
          case rel => exact ⟨i + 1, by omega, rfl, by go_num, below_drewN hbq _⟩
          case measure => simp [intOf]; omega
        · have hy2 : decide (z ≤ y) = false := decide_eq_false hy
          go_wp2
          go_quiet (fail)
          go_wp2
          go_roundw
          case rel => exact ⟨i + 1, by omega, rfl, by go_num, below_drewN hbq _⟩
          case measure => simp [intOf]; omega
      · obtain rfl : i = m := by omega
        have HE := hid (HAS.out hz1)
        clear HBT HAN HAS HO1 hps
        go_wp2
        go_ret2
        exact ⟨by rw [HE.out.1, HE.out.2]; rfl, next hb1 hbq⟩
  · have hz : 1 ≤ z := by omega
    have hzd : decide (1 ≤ z) = true := decide_eq_true hz
    go_loopw [7, 8] (fun s7 s8 wr => ∃ (i : Nat) (j : Int), i ≤ m ∧ s7 = .int .i64 j ∧ s8 = .int .i64 i ∧ Hid ((bsK z R i = none ∧ j = -1) ∨ ∃ q : Nat, q < i ∧ j = q ∧ bsK z R i = some (pa R q)) ∧ Below w1.heap.size w1 wr) (fun _ s8 _ => m - (intOf s8).toNat)
    case atStart => exact ⟨0, -1, Nat.zero_le _, rfl, rfl, hid (.inl ⟨rfl, rfl⟩), Below.refl _ _⟩
    case round =>
      obtain ⟨i, j, hi, rfl, rfl, HJ, hbq⟩ := hrel
      by_cases hlt : i < m
      · obtain ⟨b, o, rfl, _, _⟩ := hps.here (by omega)
        obtain ⟨c0, c1⟩ := hps.at hbq hlt
        have hki : (i : Int) < (m : Int) := by omega
        by_cases hy : z ≤ (pa R i).sz
        · rcases HJ.out with ⟨e, rfl⟩ | ⟨q, hq, rfl, e⟩
          · have HN : Hid ((bsK z R (i + 1) = none ∧ (i : Int) = -1) ∨ ∃ q : Nat, q < i + 1 ∧ (i : Int) = q ∧ bsK z R (i + 1) = some (pa R q)) := hid (.inr ⟨i, by omega, rfl, bs_first hy e⟩)
            generalize pa R i = s at *
            obtain ⟨p, y⟩ := s
            simp only at c0 c1 hy
            have hyd : decide (z ≤ y) = true := decide_eq_true hy
            clear HBT HAN HAS HO1 hps HJ e
            go_wp2
            go_quiet (fail)
            go_wp2
            go_roundw
            case rel => exact ⟨i + 1, i, by omega, rfl, by go_num, HN, below_drewN hbq _⟩
            case measure => simp [intOf]; omega
          · obtain ⟨d0, d1⟩ := hps.at hbq (show q < m by omega)
            have hqi : (q : Int) < (m : Int) := by omega
            have hq0 : ¬ ((q : Int) < 0) := by omega
            have hq0' : decide ((q : Int) < 0) = false := decide_eq_false hq0
            have hbt := HBT.out i (pa R q) (by omega) e
            by_cases hB : (pa R i).sz < (pa R q).sz
            · have HN : Hid ((bsK z R (i + 1) = none ∧ (i : Int) = -1) ∨ ∃ q : Nat, q < i + 1 ∧ (i : Int) = q ∧ bsK z R (i + 1) = some (pa R q)) := hid (.inr ⟨i, by omega, rfl, bs_better hy e (hbt.2 hB)⟩)
              generalize pa R i = s at *
              generalize pa R q = u at *
              obtain ⟨p, y⟩ := s
              obtain ⟨p1, y1⟩ := u
              simp only at c0 c1 d0 d1 hy hB
              have hyd : decide (z ≤ y) = true := decide_eq_true hy
              have hBd : decide (y < y1) = true := decide_eq_true hB
              clear HBT HAN HAS HO1 hps HJ e hbt
              go_wp2
              go_quiet (fail)
              go_wp2
              go_roundw
              case rel => exact ⟨i + 1, i, by omega, rfl, by go_num, HN, below_drewN hbq _⟩
              case measure => simp [intOf]; omega
            · have HN : Hid ((bsK z R (i + 1) = none ∧ (q : Int) = -1) ∨ ∃ q' : Nat, q' < i + 1 ∧ (q : Int) = q' ∧ bsK z R (i + 1) = some (pa R q')) := hid (.inr ⟨q, by omega, rfl, bs_not hy e (fun x => hB (hbt.1 x))⟩)
              generalize pa R i = s at *
              generalize pa R q = u at *
              obtain ⟨p, y⟩ := s
              obtain ⟨p1, y1⟩ := u
              simp only at c0 c1 d0 d1 hy hB
              have hyd : decide (z ≤ y) = true := decide_eq_true hy
              have hBd : decide (y < y1) = false := decide_eq_false hB
              clear HBT HAN HAS HO1 hps HJ e hbt
              go_wp2
              go_quiet (fail)
              go_wp2
              go_roundw
              case rel => exact ⟨i + 1, q, by omega, rfl, by go_num, HN, below_drewN hbq _⟩
              case measure => simp [intOf]; omega
        · have HN : Hid ((bsK z R (i + 1) = none ∧ j = -1) ∨ ∃ q : Nat, q < i + 1 ∧ j = q ∧ bsK z R (i + 1) = some (pa R q)) := hid (by
            rw [bs_small hy]
            rcases HJ.out with ⟨e1, e2⟩ | ⟨q, e1, e2, e3⟩
            · exact .inl ⟨e1, e2⟩
            · exact .inr ⟨q, by omega, e2, e3⟩)
          generalize pa R i = s at *
          obtain ⟨p, y⟩ := s
          simp only at c0 c1 hy
          have hyd : decide (z ≤ y) = false := decide_eq_false hy
          clear HBT HAN HAS HO1 hps HJ
          go_wp2
          go_quiet (fail)
          go_wp2
          go_roundw
          case rel => exact ⟨i + 1, j, by omega, rfl, by go_num, HN, below_drewN hbq _⟩
          case measure => simp [intOf]; omega
      · obtain rfl : i = m := by omega
        have HA := hid (fun r hr => HAN.out hz r hr)
        rcases HJ.out with ⟨e, rfl⟩ | ⟨q, hq, rfl, e⟩
        · have HE : Hid (an = 0 ∧ ab = false) := hid (by have := HA.out none (by rw [hlm]; exact e); exact this)
          clear HBT HAN HAS HO1 hps HJ e HA
          go_wp2
          go_ret2
          exact ⟨by rw [HE.out.1, HE.out.2]; rfl, next hb1 hbq⟩
        · obtain ⟨b, o, rfl, _, _⟩ := hps.here (by omega)
          obtain ⟨d0, d1⟩ := hps.at hbq (show q < i by omega)
          have hqi : (q : Int) < (i : Int) := by omega
          have hq0 : ¬ ((q : Int) < 0) := by omega
          have HE : Hid (an = (pa R q).pos ∧ ab = true) := hid (by have := HA.out (some (pa R q)) (by rw [hlm]; exact e); exact this)
          generalize pa R q = u at *
          obtain ⟨p, y⟩ := u
          simp only at d0 d1 HE
          clear HBT HAN HAS HO1 hps HJ e HA
          go_wp2
          go_ret2
          exact ⟨by rw [HE.out.1, HE.out.2]; rfl, next hb1 hbq⟩
end Go.Proofs.YtlghhhhgfnnjgaaDoor
