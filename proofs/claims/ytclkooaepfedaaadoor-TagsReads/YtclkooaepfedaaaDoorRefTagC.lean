/- joistref11.beside, Right by their contracts. -/
import Derived.Test.YtclkooaepfedaaaDoorRefTagB
namespace Go.Proofs.YtclkooaepfedaaaDoor
set_option maxRecDepth 100000
open Go.RowKit
set_option linter.unusedVariables false
set_option linter.unusedSimpArgs false
set_option maxRecDepth 100000

theorem beside_up (ao : Option Addr) (n cap : Nat) (g : List Spn) (k : Nat) (w : World) (h : Ps w ao n cap g) (hn : n ≤ 100000) (hk : k < n) (hp : ∀ s ∈ g, 0 ≤ s.pos ∧ s.pos ≤ 2048) :
    Calls Tryd.prog 34 #[.slice ao n cap, .int .i64 k, .int .i64 1] w fun e w' => e = .returned (.int .i64 (nxL g k)) ∧ Below w.heap.size w w' := by
  have hl := h.len
  obtain ⟨b, off, rfl, hbl, _⟩ := h.here (by omega)
  obtain ⟨c0, c1⟩ := h.at (Below.refl _ _) hk
  have hki : (k : Int) < (n : Int) := by omega
  have wa1 : IntKind.i64.wrap ((k : Int) + 1) = ((k + 1 : Nat) : Int) := by rw [IntWalk.i64_in _ ⟨by omega, by omega⟩]; omega
  have cL := rlist_any (pa g k).sz w
  obtain ⟨L, hL⟩ : ∃ L, lsN (pa g k).sz = L := ⟨_, rfl⟩
  obtain ⟨nx, hnx⟩ : ∃ nx, nxL g k = nx := ⟨_, rfl⟩
  have HI : Hid (fsL (g.drop (k + 1)) L = nx) := hid (by rw [← hnx, ← hL]; rfl)
  rw [hnx]
  rw [hL] at cL
  clear hnx hL
  generalize pa g k = s at *
  generalize lsB s.sz = lb at *
  obtain ⟨p, z⟩ := s
  simp only at *
  go_enter Tryd.func34, Tryd.ntmps34
  go_wp2_with (first
    | (go_at_call 17; with_reducible refine cL.mono ?_; rintro e w1 ⟨rfl, hb1⟩; clear cL))
  clear c0 c1 wa1
  go_loopw [9] (fun s9 wr => ∃ j : Nat, k + 1 ≤ j ∧ j ≤ n ∧ s9 = .int .i64 j ∧ Hid (fsL (g.drop j) L = nx) ∧ Below w.heap.size w wr) (fun s9 _ => n - (intOf s9).toNat)
  case atStart => exact ⟨k + 1, Nat.le_refl _, by omega, by simp, HI, hb1⟩
  case round =>
    clear HI hb1
    obtain ⟨j, hj1, hj2, rfl, HI, hb⟩ := hrel
    have j0 : (0 : Int) ≤ (j : Int) := by omega
    by_cases hlt : j < n
    · have hji : (j : Int) < (n : Int) := by omega
      obtain ⟨d0, d1⟩ := h.at hb hlt
      have cJ := rlist_any (pa g j).sz wr
      have hpj := hp (pa g j) (pa_mem (by omega))
      have w2 : IntKind.i64.wrap ((j : Int) + 1) = ((j + 1 : Nat) : Int) := by rw [IntWalk.i64_in _ ⟨by omega, by omega⟩]; omega
      have w3 : IntKind.i64.wrap ((pa g j).pos + 1) = (pa g j).pos + 1 := IntWalk.i64_in _ ⟨by omega, by omega⟩
      have HD := hid (drop_pa (l := g) (k := j) (by omega))
      by_cases hc : lsN (pa g j).sz = L
      · have HR : Hid ((pa g j).pos + 1 = nx) := hid (by rw [← HI.out, HD.out, fs_here hc])
        rw [hc] at cJ
        have hLL : ((L : Int) == (L : Int)) = true := by simp
        have Hbl : Hid (∀ w', Below wr.heap.size wr w' → w'.cell? ⟨b, off + j * 2, none⟩ = some (.int .i64 (pa g j).pos)) := hid (fun w' hb' => (h.at (next hb hb') hlt).c0)
        clear HI HD h hp hc hpj
        generalize pa g j = s at *
        generalize lsB s.sz = lb2 at *
        obtain ⟨p', z'⟩ := s
        simp only at *
        go_wp2_with (first
          | (go_at_call 17; with_reducible refine cJ.mono ?_; rintro e w2 ⟨rfl, hb2⟩; have d2 := Hbl.out w2 hb2; clear cJ))
        go_ret
        exact ⟨by rw [← HR.out]; rfl, next hb hb2⟩
      · have HI2 : Hid (fsL (g.drop (j + 1)) L = nx) := hid (by rw [← HI.out, HD.out, fs_next hc])
        obtain ⟨L2, hL2⟩ : ∃ L2, lsN (pa g j).sz = L2 := ⟨_, rfl⟩
        rw [hL2] at cJ hc
        have hLL : ((L2 : Int) == (L : Int)) = false := by simp; omega
        clear HI HD h hp hpj hL2 hc
        generalize pa g j = s at *
        generalize lsB s.sz = lb2 at *
        obtain ⟨p', z'⟩ := s
        simp only at *
        go_wp2_with (first
          | (go_at_call 17; with_reducible refine cJ.mono ?_; rintro e w2 ⟨rfl, hb2⟩; clear cJ))
        go_roundw
        case rel => exact ⟨j + 1, by omega, by omega, by simp, HI2, next hb hb2⟩
        case measure => simp [intOf]; omega
    · obtain rfl : j = n := by omega
      have hji : ¬ ((j : Int) < (j : Int)) := by omega
      have HR : Hid (nx = 0) := hid (by rw [← HI.out, List.drop_of_length_le (by omega), fs_nil])
      clear HI h hp
      go_wp2
      go_ret
      exact ⟨by rw [HR.out]; rfl, hb⟩
theorem beside_down (ao : Option Addr) (n cap : Nat) (g : List Spn) (k : Nat) (w : World) (h : Ps w ao n cap g) (hn : n ≤ 100000) (hk : k < n) (hp : ∀ s ∈ g, 0 ≤ s.pos ∧ s.pos ≤ 2048) :
    Calls Tryd.prog 34 #[.slice ao n cap, .int .i64 k, .int .i64 (-1)] w fun e w' => e = .returned (.int .i64 (ahL g k)) ∧ Below w.heap.size w w' := by
  have hl := h.len
  obtain ⟨b, off, rfl, hbl, _⟩ := h.here (by omega)
  obtain ⟨c0, c1⟩ := h.at (Below.refl _ _) hk
  have hki : (k : Int) < (n : Int) := by omega
  have wa1 : IntKind.i64.wrap ((k : Int) + -1) = (k : Int) - 1 := by rw [IntWalk.i64_in _ ⟨by omega, by omega⟩]; omega
  have cL := rlist_any (pa g k).sz w
  obtain ⟨L, hL⟩ : ∃ L, lsN (pa g k).sz = L := ⟨_, rfl⟩
  obtain ⟨nx, hnx⟩ : ∃ nx, ahL g k = nx := ⟨_, rfl⟩
  have HI : Hid (fsL (g.take k).reverse L = nx) := hid (by rw [← hnx, ← hL]; rfl)
  rw [hnx]
  rw [hL] at cL
  clear hnx hL
  generalize pa g k = s at *
  generalize lsB s.sz = lb at *
  obtain ⟨p, z⟩ := s
  simp only at *
  go_enter Tryd.func34, Tryd.ntmps34
  go_wp2_with (first
    | (go_at_call 17; with_reducible refine cL.mono ?_; rintro e w1 ⟨rfl, hb1⟩; clear cL))
  clear c0 c1 wa1
  go_loopw [9] (fun s9 wr => ∃ j : Nat, j ≤ k ∧ s9 = .int .i64 ((j : Int) - 1) ∧ Hid (fsL (g.take j).reverse L = nx) ∧ Below w.heap.size w wr) (fun s9 _ => (intOf s9 + 1).toNat)
  case atStart => exact ⟨k, Nat.le_refl _, by first | rfl | (congr 1; omega), HI, hb1⟩
  case round =>
    clear HI hb1
    obtain ⟨j, hj1, rfl, HI, hb⟩ := hrel
    by_cases hlt : 0 < j
    · obtain ⟨i, rfl⟩ : ∃ i, j = i + 1 := ⟨j - 1, by omega⟩
      have e1 : ((i + 1 : Nat) : Int) - 1 = (i : Int) := by omega
      rw [e1]
      have j0 : (0 : Int) ≤ (i : Int) := by omega
      have hlti : i < n := by omega
      have hji : (i : Int) < (n : Int) := by omega
      obtain ⟨d0, d1⟩ := h.at hb hlti
      have cJ := rlist_any (pa g i).sz wr
      have hpj := hp (pa g i) (pa_mem (by omega))
      have w2 : IntKind.i64.wrap ((i : Int) + -1) = (i : Int) - 1 := by rw [IntWalk.i64_in _ ⟨by omega, by omega⟩]; omega
      have w3 : IntKind.i64.wrap ((pa g i).pos + 1) = (pa g i).pos + 1 := IntWalk.i64_in _ ⟨by omega, by omega⟩
      have HD := hid (rev_take (g := g) (k := i) (by omega))
      by_cases hc : lsN (pa g i).sz = L
      · have HR : Hid ((pa g i).pos + 1 = nx) := hid (by rw [← HI.out, HD.out, fs_here hc])
        rw [hc] at cJ
        have hLL : ((L : Int) == (L : Int)) = true := by simp
        have Hbl : Hid (∀ w', Below wr.heap.size wr w' → w'.cell? ⟨b, off + i * 2, none⟩ = some (.int .i64 (pa g i).pos)) := hid (fun w' hb' => (h.at (next hb hb') hlti).c0)
        clear HI HD h hp hc hpj e1
        generalize pa g i = s at *
        generalize lsB s.sz = lb2 at *
        obtain ⟨p', z'⟩ := s
        simp only at *
        go_wp2_with (first
          | (go_at_call 17; with_reducible refine cJ.mono ?_; rintro e w2 ⟨rfl, hb2⟩; have d2 := Hbl.out w2 hb2; clear cJ))
        go_ret
        exact ⟨by rw [← HR.out]; rfl, next hb hb2⟩
      · have HI2 : Hid (fsL (g.take i).reverse L = nx) := hid (by rw [← HI.out, HD.out, fs_next hc])
        obtain ⟨L2, hL2⟩ : ∃ L2, lsN (pa g i).sz = L2 := ⟨_, rfl⟩
        rw [hL2] at cJ hc
        have hLL : ((L2 : Int) == (L : Int)) = false := by simp; omega
        clear HI HD h hp hpj hL2 hc e1
        generalize pa g i = s at *
        generalize lsB s.sz = lb2 at *
        obtain ⟨p', z'⟩ := s
        simp only at *
        go_wp2_with (first
          | (go_at_call 17; with_reducible refine cJ.mono ?_; rintro e w2 ⟨rfl, hb2⟩; clear cJ))
        go_roundw
        case rel => exact ⟨i, by omega, by first | rfl | (congr 1; omega), HI2, next hb hb2⟩
        case measure => simp [intOf]
    · obtain rfl : j = 0 := by omega
      have HR : Hid (nx = 0) := hid (by rw [← HI.out]; simp [fs_nil])
      clear HI h hp
      go_wp2
      go_ret
      exact ⟨by rw [HR.out]; rfl, hb⟩
set_option maxHeartbeats 2000000 in
theorem rright_bs (f t : Int) (ao : Option Addr) (n cap : Nat) (l : List Blk) (bo : Option Addr) (m cap' : Nat) (A : Nat → Option Addr) (N C : Nat → Nat) (ds : List (List Int)) (w : World) (h : Bs w ao n cap l) (hd : Rd w bo m cap' A N C ds) (hn : n ≤ 100000) (hm : m ≤ 9223372036854775807) :
    Calls Tryd.prog 31 #[.int .i64 f, .int .i64 t, .slice ao n cap, .slice bo m cap'] w fun e w' => Answers (RightP f t (spL l) ∧ HoldB l ds) e ∧ Below w.heap.size w w' := by
  have hl := h.len
  have hdl := hd.len
  have cS := rspans_bs ao n cap l w h hn
  have cR : ∀ w1 so sc, OwP w.heap.size w1 so n sc (spL l) → Calls Tryd.prog 40 #[.int .i64 f, .int .i64 t, .slice so n sc] w1 fun e w' => e = .returned (.bool (rightPB f t (spL l))) ∧ Below w1.heap.size w1 w' := fun w1 so sc h1 => rrightP_ps f t so n sc (spL l) w1 h1.ps (by omega)
  by_cases hr : RightP f t (spL l)
  · rw [rightPB_t hr] at cR
    by_cases hmn : m = n
    · subst hmn
      have HE : Hid (HoldK l ds m → RightP f t (spL l) ∧ HoldB l ds) := hid (fun h => ⟨hr, by omega, fun i hi => h.ixs i (by omega), fun i j hij hj => h.one i j hij (by omega)⟩)
      have hz : ∀ i, i < m → 4 ≤ (ba l i).sz ∧ (ba l i).sz ≤ 2048 := fun i hi => by
        have := blk_fit hr (i := i) (by omega)
        obtain ⟨⟨h0, h1, h2, _⟩, _⟩ := hr
        omega
      have hmm : ((m : Int) != (m : Int)) = false := by simp
      clear hr
      go_enter Tryd.func31, Tryd.ntmps31
      go_wp2_with (first
        | (go_at_call 51; with_reducible refine cS.mono ?_; rintro e w1 ⟨so, sc, rfl, h1, hb1⟩; clear cS)
        | (go_at_call 40; with_reducible refine (cR w1 so sc h1).mono ?_; rintro e w2 ⟨rfl, hb2⟩; have hb12 := next hb1 hb2; clear cR h1 hb1 hb2))
      clear hmm
      go_loopw [10] (fun s wr => ∃ k : Nat, k ≤ m ∧ s = .int .i64 k ∧ Hid (HoldK l ds k) ∧ Below w.heap.size w wr) (fun s _ => m - (intOf s).toNat)
      case atStart => exact ⟨0, Nat.zero_le _, rfl, hid ⟨fun i hi => absurd hi (by omega), fun i j _ hj => absurd hj (by omega)⟩, hb12⟩
      case round =>
        clear hb12
        obtain ⟨k, hk, rfl, HK, hb⟩ := hrel
        by_cases hlt : k < m
        · obtain ⟨b, off, rfl, hbl, _⟩ := h.here (by omega)
          obtain ⟨b2, off2, rfl, hbl2, _⟩ := hd.here (by omega)
          obtain ⟨c0, c1, c2⟩ := h.at hb hlt
          have c3 := hd.cell hb hlt
          have hrow := (hd.row k hlt).len
          have hki : (k : Int) < (m : Int) := by omega
          obtain ⟨z0, z1⟩ := hz k hlt
          have no : ¬ (0 ≤ (ba l k).ix ∧ (ba l k).ix < 32 ∧ ((da ds k).length : Int) ≤ ((ba l k).sz - 2) * 8) → Hid (¬ (RightP f t (spL l) ∧ HoldB l ds)) := fun hc => hid (fun hh => hc (hh.2.ixs k (by omega)))
          have HNe : Hid (∀ j, j < k → (ba l j).ix = (ba l k).ix → ¬ (RightP f t (spL l) ∧ HoldB l ds)) := hid (fun j hj e hh => hh.2.one j k hj (by omega) e)
          have HGo : Hid (0 ≤ (ba l k).ix → (ba l k).ix < 32 → ((da ds k).length : Int) ≤ ((ba l k).sz - 2) * 8 → (∀ j, j < k → (ba l j).ix ≠ (ba l k).ix) → HoldK l ds (k + 1)) := hid (fun g0 g1 g2 g3 => ⟨fun i hi => by
              by_cases c : i < k
              · exact HK.out.ixs i c
              · obtain rfl : i = k := by omega
                exact ⟨g0, g1, g2⟩, fun i j hij hj => by
              by_cases c : j < k
              · exact HK.out.one i j hij c
              · obtain rfl : j = k := by omega
                exact g3 i hij⟩)
          rw [hrow] at no HGo
          have a1 : IntKind.i64.wrap ((ba l k).sz - 2) = (ba l k).sz - 2 := IntWalk.i64_in _ ⟨by omega, by omega⟩
          have a2 : IntKind.i64.wrap (8 * ((ba l k).sz - 2)) = 8 * ((ba l k).sz - 2) := IntWalk.i64_in _ ⟨by omega, by omega⟩
          obtain ⟨x, hx⟩ : ∃ x, (ba l k).ix = x := ⟨_, rfl⟩
          obtain ⟨z, hz'⟩ : ∃ z, (ba l k).sz = z := ⟨_, rfl⟩
          rw [hx] at c2 no HNe HGo
          rw [hz'] at c1 no HGo a1 a2
          generalize A k = ak at *
          generalize N k = nk at *
          generalize C k = ck at *
          by_cases hx0 : x < 0
          · have d1 : decide (x < 0) = true := decide_eq_true hx0
            have HNO := no (by omega)
            clear no HNe HGo HK h hd hz
            go_wp2
            go_quiet (fail)
            go_wp2
            go_ret
            exact ⟨ans_no HNO.out, below_drewN hb _⟩
          · have d1 : decide (x < 0) = false := decide_eq_false hx0
            by_cases hx1 : 32 ≤ x
            · have d2 : decide (32 ≤ x) = true := decide_eq_true hx1
              have HNO := no (by omega)
              clear no HNe HGo HK h hd hz
              go_wp2
              go_quiet (fail)
              go_wp2
              go_ret
              exact ⟨ans_no HNO.out, below_drewN hb _⟩
            · have d2 : decide (32 ≤ x) = false := decide_eq_false hx1
              by_cases hx2 : 8 * (z - 2) < (nk : Int)
              · have d3 : decide (8 * (z - 2) < (nk : Int)) = true := decide_eq_true hx2
                have HNO := no (by omega)
                clear no HNe HGo HK h hd hz
                go_wp2
                go_quiet (fail)
                go_wp2
                go_ret
                exact ⟨ans_no HNO.out, below_drewN hb _⟩
              · have d3 : decide (8 * (z - 2) < (nk : Int)) = false := decide_eq_false hx2
                have HGo' := hid (HGo.out (by omega) (by omega) (by omega))
                have Hx := hid hx
                have H := hid h
                clear no HGo HK hx h
                go_wp2
                go_quiet (fail)
                go_wp2
                go_loopw [11] (fun s w5 => ∃ j : Nat, j ≤ k ∧ s = .int .i64 j ∧ Hid (∀ i, i < j → (ba l i).ix ≠ x) ∧ Below w.heap.size w w5) (fun s _ => k - (intOf s).toNat)
                case atStart => exact ⟨0, Nat.zero_le _, rfl, hid (fun i hi => absurd hi (by omega)), below_drewN hb _⟩
                case round =>
                  obtain ⟨j, hj, rfl, HJ, hb5⟩ := hrel
                  by_cases hjl : j < k
                  · have hji : (j : Int) < (k : Int) := by omega
                    have hjm : (j : Int) < (m : Int) := by omega
                    have e2 := (H.out.at hb5 hlt).c2
                    rw [Hx.out] at e2
                    have e1 := (H.out.at hb5 (show j < m by omega)).c2
                    obtain ⟨y, hy⟩ : ∃ y, (ba l j).ix = y := ⟨_, rfl⟩
                    rw [hy] at e1
                    by_cases hyx : y = x
                    · have HNO := hid (HNe.out j hjl (by rw [hy, hyx]))
                      have d4 : (y == x) = true := by simpa using hyx
                      clear HNe HGo' HJ hyx hy
                      go_wp2
                      go_quiet (fail)
                      go_wp2
                      go_ret
                      exact ⟨ans_no HNO.out, below_drewN hb5 _⟩
                    · have d4 : (y == x) = false := by simpa using hyx
                      have HJ2 : Hid (∀ i, i < j + 1 → (ba l i).ix ≠ x) := hid (fun i hi => by
                        by_cases c : i < j
                        · exact HJ.out i c
                        · obtain rfl : i = j := by omega
                          rw [hy]; exact hyx)
                      clear HJ hy
                      go_wp2
                      go_quiet (fail)
                      go_wp2
                      go_roundw
                      case rel => exact ⟨j + 1, by omega, by go_num, HJ2, below_drewN hb5 _⟩
                      case measure => simp [intOf]; omega
                  · obtain rfl : j = k := by omega
                    have hji : ¬ ((j : Int) < (j : Int)) := by omega
                    have HK2 := hid (HGo'.out HJ.out)
                    clear HGo' HJ HNe
                    go_wp2
                    go_roundw
                    case rel => exact ⟨j + 1, by omega, by go_num, HK2, hb5⟩
                    case measure => simp [intOf]; omega
        · obtain rfl : k = m := by omega
          have hki : ¬ ((k : Int) < (k : Int)) := by omega
          clear h hd
          go_wp2
          go_ret
          exact ⟨ans_yes (HE.out HK.out), hb⟩
    · have HNO : Hid (¬ (RightP f t (spL l) ∧ HoldB l ds)) := hid (fun hh => hmn (by have := hh.2.len; omega))
      have hmn' : ((n : Int) != (m : Int)) = true := by simp; omega
      clear h hd hr hmn
      go_enter Tryd.func31, Tryd.ntmps31
      go_wp2_with (first
        | (go_at_call 51; with_reducible refine cS.mono ?_; rintro e w1 ⟨so, sc, rfl, h1, hb1⟩)
        | (go_at_call 40; with_reducible refine (cR w1 so sc h1).mono ?_; rintro e w2 ⟨rfl, hb2⟩))
      go_ret
      exact ⟨ans_no HNO.out, next hb1 hb2⟩
  · rw [rightPB_f hr] at cR
    have HNO : Hid (¬ (RightP f t (spL l) ∧ HoldB l ds)) := hid (fun hh => hr hh.1)
    clear h hd hr
    go_enter Tryd.func31, Tryd.ntmps31
    go_wp2_with (first
      | (go_at_call 51; with_reducible refine cS.mono ?_; rintro e w1 ⟨so, sc, rfl, h1, hb1⟩)
      | (go_at_call 40; with_reducible refine (cR w1 so sc h1).mono ?_; rintro e w2 ⟨rfl, hb2⟩))
    go_ret
    exact ⟨ans_no HNO.out, next hb1 hb2⟩
end Go.Proofs.YtclkooaepfedaaaDoor
