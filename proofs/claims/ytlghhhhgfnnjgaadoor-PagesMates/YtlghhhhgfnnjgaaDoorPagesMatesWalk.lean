/- 'PagesMates' walked: each object is among the mates of just its pages; mates of a slab have its class. -/
import Derived.Test.YtlghhhhgfnnjgaaDoorPagAid
import Derived.Test.YtlghhhhgfnnjgaaDoorMateM
namespace Go.Proofs.YtlghhhhgfnnjgaaDoor
set_option maxRecDepth 100000
open Go.RowKit
set_option linter.unusedVariables false
set_option linter.unusedSimpArgs false
set_option maxRecDepth 100000

set_option maxHeartbeats 2000000 in
theorem pagesMates_walk (w : World) (T : Cws w) (P : Int) (hw0 : (Lit.int .i64 P).wf = true) (ao : Option Addr) (n cap : Nat) (l : List Spn) (h : Ps w ao n cap l) (hc : cap * 16 ≤ 140737488351232) :
    Calls Tryd.prog 7 #[.int .i64 P, .slice ao n cap] w fun e w' => e = .returned (.bool true) ∧ Below w.heap.size w w' := by
  have hroom := h.room
  have hlen := h.len
  have cS := smallG_any w T
  clear hw0
  have cK := fun w' (hb : Below w.heap.size w w') => kinds_ps P ao n cap l w' (T.kept hb) (h.below hb) (by omega)
  by_cases hr : RightO P l
  · obtain ⟨P0, P1⟩ := hr.rng
    obtain ⟨N, rfl⟩ : ∃ N : Nat, P = N := ⟨P.toNat, by omega⟩
    simp only [(kz_t hr).1, (kz_t hr).2] at cK
    by_cases hn : 200 < n
    · have hni : (200 : Int) < (n : Int) := by omega
      generalize kzN N l = K at *
      clear h T hr
      go_enter Tryd.func7, Tryd.ntmps7
      go_wp2_with (first
        | (go_at_call 9; with_reducible refine cS.mono ?_; rintro e w1 ⟨rfl, hb1⟩)
        | (go_at_call 10; with_reducible refine (cK _ hb1).mono ?_; rintro e w2 ⟨b2, m2, c2, rfl, ho2, hb2⟩; clear ho2; have hb2a := next hb1 hb2))
      go_ret
      exact ⟨rfl, hb2a⟩
    · have hni : ¬ ((200 : Int) < (n : Int)) := by omega
      have hN64 : N ≤ 64 := by omega
      have cM := fun (p : Int) (hp : Rg p) w' (hb : Below w.heap.size w w') => mates_ps N (by omega) ao n cap l p hp w' (T.kept hb) (h.below hb) (by omega)
      have HMT : Hid (∀ p, mtL N l p = mtK l p l.length) := hid (fun p => mt_t hr)
      have HM0 : Hid (∀ p, (mtK l p l.length).length = 0 ↔ kdL l p = -1) := hid (fun p => mt_none_iff hr p)
      have HM1 : Hid (∀ p, 6 ≤ kdL l p → (mtK l p l.length).length = 1) := hid (fun p hp => mt_one hr hp)
      have HMK : Hid (∀ p j, j < n → HasC (pa l j) p → kdL l p = kdO (pa l j) p) := hid (fun p j hj hp => kdL_has hr (pa_mem (by omega)) hp)
      have HIN : Hid (∀ j, j < n → InC N (pa l j)) := hid (fun j hj => hr.lie _ (pa_mem (by omega)))
      have HBW : Hid ((smN l n N : Int) = wnN l n) := hid (both_ways hr.lie n (by omega))
      have HWN : Hid (∀ j, j ≤ n → 0 ≤ wnN l j ∧ wnN l j ≤ 8 * j) := hid (fun j hj => wnN_rg hr.lie j (by omega))
      have HO1 : Hid (mtL N l (-1) = [] ∧ mtL N l N = []) := hid ⟨mt_out hr (by omega), mt_out hr (by omega)⟩
      have HKL : Hid ((kzN N l).length = N) := hid (by rw [kzN_len]; omega)
      have HKZ : Hid (∀ i, i < N → (kzN N l).getD i 0 = kdL l (i : Nat)) := hid (fun i hi => kzN_at (by omega) 0)
      have HPS := hid (fun w' (hb : Below w.heap.size w w') => h.below hb)
      have HSH : Hid (0 < n → ∃ b o, ao = some ⟨b, o, none⟩) := hid (fun hn => by obtain ⟨b, o, e, _⟩ := h.here hn; exact ⟨b, o, e⟩)
      have HT := hid (fun w' (hb : Below w.heap.size w w') => T.kept hb)
      clear h T hr P0 P1
      generalize kzN N l = K at *
      go_enter Tryd.func7, Tryd.ntmps7
      go_wp2_with (first
        | (go_at_call 9; with_reducible refine cS.mono ?_; rintro e w1 ⟨rfl, hb1⟩)
        | (go_at_call 10; with_reducible refine (cK _ hb1).mono ?_; rintro e w2 ⟨b2, m2, c2, rfl, ho2, hb2⟩; have HO2 := hid ho2; clear ho2; have hb2a := next hb1 hb2))
      have hm2 := HO2.out.len
      rw [HKL.out] at hm2
      subst hm2
      clear cS cK HKL
      go_loopw [8, 9] (fun s8 s9 wr => ∃ i : Nat, i ≤ N ∧ s8 = .int .i64 (smN l n i : Nat) ∧ s9 = .int .i64 i ∧ Below w2.heap.size w2 wr) (fun _ s9 _ => N - (intOf s9).toNat)
      case atStart => exact ⟨0, Nat.zero_le _, rfl, rfl, Below.refl _ _⟩
      case round =>
        obtain ⟨i, hi, rfl, rfl, hbq⟩ := hrel
        have hbW := next hb2a hbq
        by_cases hlt : i < N
        · skip
          have hii : (i : Int) < (N : Int) := by omega
          have c1 := cM i ⟨by omega, by omega⟩ _ hbW
          rw [HMT.out] at c1
          obtain ⟨V, hV⟩ : ∃ V, kdL l (i : Nat) = V := ⟨_, rfl⟩
          have HVV := hid hV
          have HV : Hid (K.getD i 0 = V) := hid ((HKZ.out i hlt).trans hV)
          have HSM : Hid (smN l n (i + 1) = smN l n i + (mtK l (i : Nat) l.length).length) := hid (by rw [hlen]; rfl)
          have HSL : Hid (smN l n i ≤ n * i) := hid (smN_le l n i)
          have HGET : Hid (∀ k, k < (mtK l (i : Nat) l.length).length → ∃ j : Nat, j < n ∧ HasC (pa l j) (i : Nat) ∧ (mtK l (i : Nat) l.length).getD k 0 = j) := hid (fun k hk => by
            obtain ⟨j, h1, h2, h3⟩ := mt_get hk
            exact ⟨j, by omega, h2, h3⟩)
          have HBF : Hid (∀ k, k + 1 < (mtK l (i : Nat) l.length).length → (mtK l (i : Nat) l.length).getD k 0 < (mtK l (i : Nat) l.length).getD (k + 1) 0) := hid (fun k hk => mt_before hk)
          have HM0i := hid (HM0.out i)
          have HM1i := hid (HM1.out i)
          have HLN := hid (mt_len l (i : Nat) l.length)
          rw [hV] at HM0i HM1i
          obtain ⟨L, hL⟩ : ∃ L, (mtK l (i : Nat) l.length).length = L := ⟨_, rfl⟩
          have HLL := hid hL
          rw [hL] at HSM HM0i HM1i HLN HGET HBF
          generalize mtK l (i : Nat) l.length = mt at *
          clear hL hV
          have hL200 : L ≤ 200 := by have := HLN.out; omega
          have x1 : IntKind.i64.wrap ((smN l n i : Nat) + (L : Int)) = ((smN l n (i + 1) : Nat) : Int) := by
            have h1 := HSL.out
            have h2 := HSM.out
            have h3 : n * i ≤ 200 * 64 := Nat.mul_le_mul (by omega) (by omega)
            rw [IntWalk.i64_in _ ⟨by omega, by omega⟩]
            omega
          obtain ⟨g1, rfl⟩ := own_at HO2.out (by omega)
          by_cases hv6 : 6 ≤ V
          · skip
            have hl0 : ((L : Int) == 0) = false := by have := HM1i.out hv6; simp; omega
            have hl1 : ((L : Int) != 1) = false := by have := HM1i.out hv6; simp; omega
            have hv1 : (V == -1) = false := by simp; omega
            have hv6d : decide (6 ≤ V) = true := decide_eq_true hv6
            have hv6' : ¬ V < 6 := by omega
            have hv6'd : decide (V < 6) = false := decide_eq_false hv6'
            clear HM0i HM1i
            go_wp2_with (go_at_call 14; with_reducible refine c1.mono ?_; rintro e w3 ⟨b3, L3, c3, rfl, ho3, hb3⟩; obtain rfl := HLL.out.symm.trans ho3.len; have HO3 := hid ho3; clear ho3; have hb3a := next hbW hb3; have v0 := (HO2.out.below (next hbq hb3)).at i hlt HV.out)

            go_loopw [11] (fun s11 wq => ∃ k : Nat, k ≤ L ∧ s11 = .int .i64 k ∧ Below w3.heap.size w3 wq) (fun s11 _ => L - (intOf s11).toNat)
            case atStart => exact ⟨0, Nat.zero_le _, rfl, Below.refl _ _⟩
            case round =>
              clear v0
              obtain ⟨k, hk, rfl, hbr⟩ := hrel
              have hbX := next hb3a hbr
              by_cases hkL : k < L
              · have hkk : (k : Int) < (L : Int) := by omega
                have hkk' : k < L := hkL
                obtain ⟨j, hj, hh, hX⟩ := HGET.out k hkL
                have HRX := hid (HO3.out.below hbr)
                have HKX := hid (HO2.out.below (next (next hbq hb3) hbr))
                obtain ⟨g2, rfl⟩ := own_at HRX.out (by omega)
                have x0 := HRX.out.at k hkL hX
                have v0 := HKX.out.at i hlt HV.out
                have hjn : (j : Int) < (n : Int) := by omega
                have hj0 : ¬ ((j : Int) < 0) := by omega
                have hjd0 : decide ((j : Int) < 0) = false := decide_eq_false hj0
                have hjg : ¬ ((n : Int) ≤ (j : Int)) := by omega
                have hjgd : decide ((n : Int) ≤ (j : Int)) = false := decide_eq_false hjg
                have hjg' : ¬ (n ≤ j) := by omega
                have hjgd' : decide (n ≤ j) = false := decide_eq_false hjg'
                obtain ⟨b, o, rfl⟩ := HSH.out (by omega)
                obtain ⟨d0, d1⟩ := (HPS.out _ hbX).at (Below.refl _ _) hj
                have hkd := HMK.out _ j hj hh
                rw [HVV.out] at hkd
                have hin := HIN.out j hj
                have cO := fun w' T' => of_any (pa l j).sz w' T'
                have HTT := hid (fun q => HT.out _ (below_drewN hbX q))
                have hs : ¬ (pa l j).sz ≤ 120 := fun hs => by have := (kdO_lt (o := pa l j) (p := i)).2 hs; omega
                simp only [(cl_f (n := (pa l j).sz) (fun c => hs c.2)).1, (cl_f (n := (pa l j).sz) (fun c => hs c.2)).2] at cO
                clear hs
                generalize pa l j = ob at *
                obtain ⟨p, y⟩ := ob
                simp only at d0 d1 cO
                clear hkd hin hh
                by_cases hk0 : k = 0
                · have hkz : ¬ (0 < (k : Int)) := by omega
                  have hkzd : decide (0 < (k : Int)) = false := decide_eq_false hkz
                  have hkz' : ¬ (0 < k) := by omega
                  have hkzd' : decide (0 < k) = false := decide_eq_false hkz'
                  clear hk0 hX HMT HM0 HM1 HMK HIN HBW HWN HO1 HKZ HPS HSH HGET HBF HRX HKX HV HVV HO3 HO2 HSM HSL cM HT
                  go_wp2
                  go_quiet (fail)
                  go_wp2_with (go_at_call 23; with_reducible refine (cO _ (HTT.out _)).mono ?_; rintro e w' ⟨rfl, rfl⟩)
                  go_roundw
                  case rel => exact ⟨k + 1, by omega, by go_num, below_drewN hbr _⟩
                  case measure => simp [intOf]; omega
                · obtain ⟨k1, hk1⟩ : ∃ k1, k1 + 1 = k := ⟨k - 1, by omega⟩
                  have hY := HBF.out k1 (by omega)
                  rw [hk1, hX] at hY
                  obtain ⟨Y, hYY⟩ : ∃ Y, mt.getD k1 0 = Y := ⟨_, rfl⟩
                  rw [hYY] at hY
                  have y0 := HRX.out.at k1 (by omega) hYY
                  have z1 : IntKind.i64.wrap ((k : Int) - 1) = (k1 : Int) := by rw [IntWalk.i64_in _ ⟨by omega, by omega⟩]; omega
                  have hk1L : (k1 : Int) < (L : Int) := by omega
                  have hYX : ¬ ((j : Int) ≤ Y) := by omega
                  have hYXd : decide ((j : Int) ≤ Y) = false := decide_eq_false hYX
                  have hkz : 0 < (k : Int) := by omega
                  have hkzd : decide (0 < (k : Int)) = true := decide_eq_true hkz
                  have hkz' : 0 < k := by omega
                  have hkzd' : decide (0 < k) = true := decide_eq_true hkz'
                  clear hk0 hX hYY hY hk1 HMT HM0 HM1 HMK HIN HBW HWN HO1 HKZ HPS HSH HGET HBF HRX HKX HV HVV HO3 HO2 HSM HSL cM HT
                  go_wp2
                  go_quiet (fail)
                  go_wp2_with (go_at_call 23; with_reducible refine (cO _ (HTT.out _)).mono ?_; rintro e w' ⟨rfl, rfl⟩)
                  go_roundw
                  case rel => exact ⟨k + 1, by omega, by go_num, below_drewN hbr _⟩
                  case measure => simp [intOf]; omega
              · obtain rfl : k = L := by omega
                clear HMT HM0 HM1 HMK HIN HBW HWN HO1 HKZ HPS HSH HGET HBF HV HVV HO3 HO2 HSM HSL cM HT
                go_wp2
                go_roundw
                case rel => exact ⟨i + 1, by omega, rfl, by go_num, next (next hbq hb3) hbr⟩
                case measure => simp [intOf]; omega
          · by_cases hvc : V = -1
            · skip
              have hl0 : ((L : Int) == 0) = true := by have := HM0i.out.2 hvc; simp; omega
              have HL0 : Hid (L = 0) := hid (HM0i.out.2 hvc)
              have hv1 : (V == -1) = true := by simpa using hvc
              have hv6d : decide (6 ≤ V) = false := decide_eq_false hv6
              clear HM0i HM1i hvc
              go_wp2_with (go_at_call 14; with_reducible refine c1.mono ?_; rintro e w3 ⟨b3, L3, c3, rfl, ho3, hb3⟩; obtain rfl := HLL.out.symm.trans ho3.len; have HO3 := hid ho3; clear ho3; have hb3a := next hbW hb3; have v0 := (HO2.out.below (next hbq hb3)).at i hlt HV.out)

              go_loopw [11] (fun s11 wq => ∃ k : Nat, k ≤ L ∧ s11 = .int .i64 k ∧ Below w3.heap.size w3 wq) (fun s11 _ => L - (intOf s11).toNat)
              case atStart => exact ⟨0, Nat.zero_le _, rfl, Below.refl _ _⟩
              case round =>
                clear v0
                obtain ⟨k, hk, rfl, hbr⟩ := hrel
                have hbX := next hb3a hbr
                by_cases hkL : k < L
                · exfalso
                  have := HL0.out
                  omega
                · obtain rfl : k = L := by omega
                  clear HMT HM0 HM1 HMK HIN HBW HWN HO1 HKZ HPS HSH HGET HBF HV HVV HO3 HO2 HSM HSL cM HT
                  go_wp2
                  go_roundw
                  case rel => exact ⟨i + 1, by omega, rfl, by go_num, next (next hbq hb3) hbr⟩
                  case measure => simp [intOf]; omega
            · skip
              have hl0 : ((L : Int) == 0) = false := by have : L ≠ 0 := fun e => hvc (HM0i.out.1 e); simp; omega
              have hv1 : (V == -1) = false := by simpa using hvc
              have hv6d : decide (6 ≤ V) = false := decide_eq_false hv6
              have hv6' : V < 6 := by omega
              have hv6'd : decide (V < 6) = true := decide_eq_true hv6'
              clear HM0i HM1i hvc
              go_wp2_with (go_at_call 14; with_reducible refine c1.mono ?_; rintro e w3 ⟨b3, L3, c3, rfl, ho3, hb3⟩; obtain rfl := HLL.out.symm.trans ho3.len; have HO3 := hid ho3; clear ho3; have hb3a := next hbW hb3; have v0 := (HO2.out.below (next hbq hb3)).at i hlt HV.out)

              go_loopw [11] (fun s11 wq => ∃ k : Nat, k ≤ L ∧ s11 = .int .i64 k ∧ Below w3.heap.size w3 wq) (fun s11 _ => L - (intOf s11).toNat)
              case atStart => exact ⟨0, Nat.zero_le _, rfl, Below.refl _ _⟩
              case round =>
                clear v0
                obtain ⟨k, hk, rfl, hbr⟩ := hrel
                have hbX := next hb3a hbr
                by_cases hkL : k < L
                · have hkk : (k : Int) < (L : Int) := by omega
                  have hkk' : k < L := hkL
                  obtain ⟨j, hj, hh, hX⟩ := HGET.out k hkL
                  have HRX := hid (HO3.out.below hbr)
                  have HKX := hid (HO2.out.below (next (next hbq hb3) hbr))
                  obtain ⟨g2, rfl⟩ := own_at HRX.out (by omega)
                  have x0 := HRX.out.at k hkL hX
                  have v0 := HKX.out.at i hlt HV.out
                  have hjn : (j : Int) < (n : Int) := by omega
                  have hj0 : ¬ ((j : Int) < 0) := by omega
                  have hjd0 : decide ((j : Int) < 0) = false := decide_eq_false hj0
                  have hjg : ¬ ((n : Int) ≤ (j : Int)) := by omega
                  have hjgd : decide ((n : Int) ≤ (j : Int)) = false := decide_eq_false hjg
                  have hjg' : ¬ (n ≤ j) := by omega
                  have hjgd' : decide (n ≤ j) = false := decide_eq_false hjg'
                  obtain ⟨b, o, rfl⟩ := HSH.out (by omega)
                  obtain ⟨d0, d1⟩ := (HPS.out _ hbX).at (Below.refl _ _) hj
                  have hkd := HMK.out _ j hj hh
                  rw [HVV.out] at hkd
                  have hin := HIN.out j hj
                  have cO := fun w' T' => of_any (pa l j).sz w' T'
                  have HTT := hid (fun q => HT.out _ (below_drewN hbX q))
                  have hs : (pa l j).sz ≤ 120 := kdO_lt.1 (show kdO (pa l j) i < 6 by omega)
                  rw [kdO_small hs] at hkd
                  simp only [cl_b (n := (pa l j).sz) ⟨hin.len.1, hs⟩, ← hkd] at cO
                  clear hs
                  generalize pa l j = ob at *
                  obtain ⟨p, y⟩ := ob
                  simp only at d0 d1 cO
                  clear hkd hin hh
                  by_cases hk0 : k = 0
                  · have hkz : ¬ (0 < (k : Int)) := by omega
                    have hkzd : decide (0 < (k : Int)) = false := decide_eq_false hkz
                    have hkz' : ¬ (0 < k) := by omega
                    have hkzd' : decide (0 < k) = false := decide_eq_false hkz'
                    clear hk0 hX HMT HM0 HM1 HMK HIN HBW HWN HO1 HKZ HPS HSH HGET HBF HRX HKX HV HVV HO3 HO2 HSM HSL cM HT
                    go_wp2
                    go_quiet (fail)
                    go_wp2_with (go_at_call 23; with_reducible refine (cO _ (HTT.out _)).mono ?_; rintro e w' ⟨rfl, rfl⟩)
                    go_roundw
                    case rel => exact ⟨k + 1, by omega, by go_num, below_drewN hbr _⟩
                    case measure => simp [intOf]; omega
                  · obtain ⟨k1, hk1⟩ : ∃ k1, k1 + 1 = k := ⟨k - 1, by omega⟩
                    have hY := HBF.out k1 (by omega)
                    rw [hk1, hX] at hY
                    obtain ⟨Y, hYY⟩ : ∃ Y, mt.getD k1 0 = Y := ⟨_, rfl⟩
                    rw [hYY] at hY
                    have y0 := HRX.out.at k1 (by omega) hYY
                    have z1 : IntKind.i64.wrap ((k : Int) - 1) = (k1 : Int) := by rw [IntWalk.i64_in _ ⟨by omega, by omega⟩]; omega
                    have hk1L : (k1 : Int) < (L : Int) := by omega
                    have hYX : ¬ ((j : Int) ≤ Y) := by omega
                    have hYXd : decide ((j : Int) ≤ Y) = false := decide_eq_false hYX
                    have hkz : 0 < (k : Int) := by omega
                    have hkzd : decide (0 < (k : Int)) = true := decide_eq_true hkz
                    have hkz' : 0 < k := by omega
                    have hkzd' : decide (0 < k) = true := decide_eq_true hkz'
                    clear hk0 hX hYY hY hk1 HMT HM0 HM1 HMK HIN HBW HWN HO1 HKZ HPS HSH HGET HBF HRX HKX HV HVV HO3 HO2 HSM HSL cM HT
                    go_wp2
                    go_quiet (fail)
                    go_wp2_with (go_at_call 23; with_reducible refine (cO _ (HTT.out _)).mono ?_; rintro e w' ⟨rfl, rfl⟩)
                    go_roundw
                    case rel => exact ⟨k + 1, by omega, by go_num, below_drewN hbr _⟩
                    case measure => simp [intOf]; omega
                · obtain rfl : k = L := by omega
                  clear HMT HM0 HM1 HMK HIN HBW HWN HO1 HKZ HPS HSH HGET HBF HV HVV HO3 HO2 HSM HSL cM HT
                  go_wp2
                  go_roundw
                  case rel => exact ⟨i + 1, by omega, rfl, by go_num, next (next hbq hb3) hbr⟩
                  case measure => simp [intOf]; omega
        · obtain rfl : i = N := by omega
          have HBW2 := hid HBW.out
          clear HMT HM0 HM1 HMK HBW HKZ HO2
          have cPG := fun z w' (T' : Cws w') => pages_any z w' T'
          generalize hTOT : ((smN l n i : Nat) : Int) = tot at *
          have HTOT : Hid (tot = wnN l n) := hid HBW2.out
          clear hTOT HBW2
          go_wp2
          go_loopw [14, 15] (fun s14 s15 wq => ∃ j : Nat, j ≤ n ∧ s14 = .int .i64 (wnN l j) ∧ s15 = .int .i64 j ∧ Below w2.heap.size w2 wq) (fun _ s15 _ => n - (intOf s15).toNat)
          case atStart => exact ⟨0, Nat.zero_le _, rfl, rfl, hbq⟩
          case round =>
            clear hbq hbW
            obtain ⟨j, hj, rfl, rfl, hbq⟩ := hrel
            have hbW := next hb2a hbq
            by_cases hjn : j < n
            · have hji : (j : Int) < (n : Int) := by omega
              obtain ⟨b, o, rfl⟩ := HSH.out (by omega)
              obtain ⟨d0, d1⟩ := (HPS.out _ hbW).at (Below.refl _ _) hjn
              have hin := HIN.out j hjn
              have cG := cPG (pa l j).sz _ (HT.out _ hbW)
              have hw := HWN.out j (by omega)
              have hkk := hin.pgk
              have hlen3 := hin.len
              by_cases hs : (pa l j).sz ≤ 120
              · rw [(pg_f (n := (pa l j).sz) (by omega)).1, (pg_f (n := (pa l j).sz) (by omega)).2] at cG
                have x1 : IntKind.i64.wrap (wnN l j + 1) = wnN l (j + 1) := by
                  rw [IntWalk.i64_in _ ⟨by omega, by omega⟩]
                  show _ = wnN l j + pgK (pa l j)
                  rw [pgK_small hs]
                generalize pa l j = ob at *
                obtain ⟨p, y⟩ := ob
                simp only at d0 d1 cG
                clear HIN HWN HO1 HPS HSH HT HTOT hin hkk hlen3 hs cM cPG
                generalize wnN l j = wj at *
                go_wp2_with (go_at_call 24; with_reducible refine cG.mono ?_; rintro e w' ⟨rfl, rfl⟩)
                go_roundw
                case rel => exact ⟨j + 1, by omega, rfl, by go_num, hbq⟩
                case measure => simp [intOf]; omega
              · rw [(pg_t (n := (pa l j).sz) ⟨by omega, by omega⟩).2] at cG
                have hpk := pgK_large hs
                have x1 : IntKind.i64.wrap (wnN l j + pgN (pa l j).sz) = wnN l (j + 1) := by
                  rw [← hpk, IntWalk.i64_in _ ⟨by omega, by omega⟩]
                  rfl
                generalize pgN (pa l j).sz = pn at *
                generalize pa l j = ob at *
                obtain ⟨p, y⟩ := ob
                simp only at d0 d1 cG
                clear HIN HWN HO1 HPS HSH HT HTOT hin hkk hlen3 hs hpk cM cPG
                generalize wnN l j = wj at *
                go_wp2_with (go_at_call 24; with_reducible refine cG.mono ?_; rintro e w' ⟨rfl, rfl⟩)
                go_roundw
                case rel => exact ⟨j + 1, by omega, rfl, by go_num, hbq⟩
                case measure => simp [intOf]; omega
            · obtain rfl : j = n := by omega
              have c1 := cM (-1) ⟨by omega, by omega⟩ _ hbW
              rw [HO1.out.1] at c1
              have c2 := fun w' hb' => cM i ⟨by omega, by omega⟩ w' hb'
              simp only [HO1.out.2] at c2
              have hto : (tot == wnN l j) = true := by rw [HTOT.out]; simp
              have HLN0 : Hid (∀ m : Nat, ([] : List Int).length = m → m = 0) := hid (fun m hm => hm.symm)
              clear HIN HWN HO1 HPS HSH HT HTOT cM cPG
              generalize wnN l j = wj at *
              go_wp2_with (first
                | (go_at_call 14; with_reducible refine c1.mono ?_; rintro e w3 ⟨b3, m3, c3, rfl, ho3, hb3⟩; obtain rfl := HLN0.out _ ho3.len; clear ho3; have hb3a := next hbW hb3)
                | (go_at_call 14; with_reducible refine (c2 _ hb3a).mono ?_; rintro e w4 ⟨b4, m4, c4, rfl, ho4, hb4⟩; obtain rfl := HLN0.out _ ho4.len; clear ho4; have hb4a := next hb3a hb4))
              go_ret
              exact ⟨rfl, hb4a⟩
  · rw [(kz_f hr).2] at cK
    clear h T hr
    generalize kzL P l = K at *
    by_cases hn : 200 < n
    · have hni : (200 : Int) < (n : Int) := by omega
      go_enter Tryd.func7, Tryd.ntmps7
      go_wp2_with (first
        | (go_at_call 9; with_reducible refine cS.mono ?_; rintro e w1 ⟨rfl, hb1⟩)
        | (go_at_call 10; with_reducible refine (cK _ hb1).mono ?_; rintro e w2 ⟨b2, m2, c2, rfl, ho2, hb2⟩; clear ho2; have hb2a := next hb1 hb2))
      go_ret
      exact ⟨rfl, hb2a⟩
    · have hni : ¬ ((200 : Int) < (n : Int)) := by omega
      go_enter Tryd.func7, Tryd.ntmps7
      go_wp2_with (first
        | (go_at_call 9; with_reducible refine cS.mono ?_; rintro e w1 ⟨rfl, hb1⟩)
        | (go_at_call 10; with_reducible refine (cK _ hb1).mono ?_; rintro e w2 ⟨b2, m2, c2, rfl, ho2, hb2⟩; clear ho2; have hb2a := next hb1 hb2))
      go_ret
      exact ⟨rfl, hb2a⟩
end Go.Proofs.YtlghhhhgfnnjgaaDoor
