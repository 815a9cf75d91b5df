/- joistref15.Bits by its contract. -/
import Derived.Test.YtfnnelkipdajiaaDoorMsA
import Derived.Test.YtfnnelkipdajiaaDoorClsB
import Derived.BigQuiet
namespace Go.Proofs.YtfnnelkipdajiaaDoor
set_option maxRecDepth 100000
open Go.RowKit
set_option linter.unusedVariables false
set_option linter.unusedSimpArgs false
set_option maxRecDepth 100000

theorem Sl.cat {w wr : World} {b off n cap : Nat} {zs : List Int} (h : Sl .i64 w (some ⟨b, off, none⟩) n cap zs) (hb : Below w.heap.size w wr) {i : Nat} (hi : i < n) : wr.cell? ⟨b, off + i, none⟩ = some (.int .i64 (cA zs i)) := by
  obtain ⟨b', o', e, _, hc⟩ := (h.below hb).here (by omega)
  simp only [Option.some.injEq, Addr.mk.injEq, and_true] at e
  obtain ⟨rfl, rfl⟩ := e
  exact hc i hi
theorem CelOk.next {n : Int} {l : List Int} {k : Nat} (h : CelOk n (l.take k)) (hk : k < l.length) (ha : CelAt n l k) : CelOk n (l.take (k + 1)) := by
  intro i hi
  rw [List.length_take] at hi
  have e : ∀ j, j < k + 1 → cA (l.take (k + 1)) j = cA l j := fun j hj => by simp only [cA, List.getD]; rw [List.getElem?_take, if_pos hj]
  by_cases c : i = k
  · subst c
    unfold CelAt at ha ⊢
    rw [e i (by omega)]
    exact ⟨ha.1, ha.2.1, fun q => by rw [e (i - 1) (by omega)]; exact ha.2.2 q⟩
  · have h1 := h i (by rw [List.length_take]; omega)
    have e2 : ∀ j, j < k → cA (l.take k) j = cA l j := fun j hj => by simp only [cA, List.getD]; rw [List.getElem?_take, if_pos hj]
    unfold CelAt at h1 ⊢
    rw [e2 i (by omega)] at h1
    rw [e i (by omega)]
    exact ⟨h1.1, h1.2.1, fun q => by have := h1.2.2 q; rw [e2 (i - 1) (by omega)] at this; rw [e (i - 1) (by omega)]; exact this⟩
set_option maxHeartbeats 2000000 in
theorem rbits_sl (c : Int) (ao : Option Addr) (n cap : Nat) (l : List Int) (w : World) (h : Sl .i64 w ao n cap l) (hn : n ≤ 9223372036854775807) :
    Calls Tryd.prog 16 #[.int .i64 c, .slice ao n cap] w fun e w' => e = .returned (.tuple #[.int .i64 (bzN c l), .int .i64 (bzE c l)]) ∧ Below w.heap.size w w' := by
  have hl := h.len
  have cC := rcells_any c w
  by_cases hc : 0 ≤ c ∧ c < 6
  · rw [wdE_in hc] at cC
    obtain ⟨_, _, hN1, hN2, _⟩ := cls_in hc
    have HNO : Hid (∀ k, k < n → ¬ CelAt (ceN c) l k → bzN c l = 0 ∧ bzE c l = 1) := hid (fun k hk hk2 => bz_f fun e => hk2 (e.2 k (by omega)))
    have HYES : Hid (CelOk (ceN c) l → bzN c l = btS l ∧ bzE c l = 0) := hid (fun e => bz_t ⟨hc, e⟩)
    have HBT : Hid (∀ k, CelOk (ceN c) (l.take k) → 0 ≤ btS (l.take k) ∧ btS (l.take k) < 16384) := hid (fun k e => ⟨(BitOk.low ⟨hc, e⟩).1, (BitOk.low ⟨hc, e⟩).2.1⟩)
    generalize ceN c = N at *
    go_enter Tryd.func16, Tryd.ntmps16
    go_wp2_with (first
      | (go_at_call 32; with_reducible refine cC.mono ?_; rintro e w1 ⟨rfl, hb1⟩; have Hh := hid (h.below hb1)))
    clear h cC
    go_loopw [8, 9] (fun s8 s9 wr => ∃ k : Nat, k ≤ n ∧ s8 = .int .i64 (btS (l.take k)) ∧ s9 = .int .i64 k ∧ Hid (CelOk N (l.take k)) ∧ Below w1.heap.size w1 wr) (fun _ s9 _ => n - (intOf s9).toNat)
    case atStart => exact ⟨0, Nat.zero_le _, rfl, rfl, hid (fun i hi => by simp at hi), Below.refl _ _⟩
    case round =>
      obtain ⟨k, hk, rfl, rfl, HC, hb⟩ := hrel
      by_cases hlt : k < n
      · obtain ⟨b, o, rfl, _, _⟩ := Hh.out.here (by omega)
        have hki : (k : Int) < (n : Int) := by omega
        have c0 := Hh.out.cat hb hlt
        obtain ⟨x, hx⟩ : ∃ x, cA l k = x := ⟨_, rfl⟩
        have HAT : Hid (CelAt N l k ↔ 0 ≤ x ∧ x < N ∧ (0 < k → cA l (k - 1) < x)) := hid (by unfold CelAt; rw [hx])
        have HTK : Hid (btS (l.take (k + 1)) = btS (l.take k) + 2 ^ x.toNat) := hid (by rw [take_cA (by omega), btS_snoc, hx])
        have HB := hid (next hb1 hb)
        rw [hx] at c0
        clear hx
        have hbt := HBT.out k HC.out
        by_cases a1 : x < 0
        · have HF := hid (HNO.out k hlt (fun e => by have := HAT.out.1 e; omega))
          have d1 : decide (x < 0) = true := decide_eq_true a1
          clear HAT HTK HC Hh HNO HYES HBT hbt
          go_wp2
          go_quiet (fail)
          go_wp2
          go_ret2
          exact ⟨by rw [HF.out.1, HF.out.2]; rfl, below_drewN HB.out _⟩
        · have d1 : decide (x < 0) = false := decide_eq_false a1
          by_cases a2 : N ≤ x
          · have HF := hid (HNO.out k hlt (fun e => by have := HAT.out.1 e; omega))
            have d2 : decide (N ≤ x) = true := decide_eq_true a2
            clear HAT HTK HC Hh HNO HYES HBT hbt
            go_wp2
            go_quiet (fail)
            go_wp2
            go_ret2
            exact ⟨by rw [HF.out.1, HF.out.2]; rfl, below_drewN HB.out _⟩
          · have d2 : decide (N ≤ x) = false := decide_eq_false a2
            by_cases hk0 : k = 0
            · have d3 : decide (0 < (k : Int)) = false := decide_eq_false (by omega)
              have g3 : ¬ (0 < (k : Int)) := by omega
              have g3' : ¬ (0 < k) := by omega
              have g3d : decide (0 < k) = false := decide_eq_false g3'
              have hat : CelAt N l k := HAT.out.2 ⟨by omega, by omega, fun q => by omega⟩
              have HC2 := hid (HC.out.next (by omega) hat)
              have hb2 := HBT.out (k + 1) HC2.out
              rw [HTK.out] at hb2
              obtain ⟨xn, hxn⟩ : ∃ xn : Nat, x = xn := ⟨x.toNat, by omega⟩
              subst hxn
              rw [Int.toNat_natCast] at hb2 HTK
              have hxb : xn < 64 := by omega
              obtain ⟨PW, hPW⟩ : ∃ PW : Int, (2 : Int) ^ xn = PW := ⟨_, rfl⟩
              have hpw := pow2_pos xn
              rw [hPW] at hb2 HTK hpw
              have y1 : IntKind.i64.wrap (btS (l.take k) + PW) = btS (l.take k) + PW := IntWalk.i64_in _ ⟨by omega, by omega⟩
              have y2 : IntKind.i64.wrap PW = PW := IntWalk.i64_in _ ⟨by omega, by omega⟩
              have HB2 := hid hb
              generalize btS (l.take k) = BT at *
              clear hk0 HAT HC Hh HNO HYES HBT hbt hb2 hat
              go_wp2
              go_quiet (fail)
              go_wp2
              go_roundw
              case rel => exact ⟨k + 1, by omega, by rw [HTK.out], by go_num, HC2, below_drewN HB2.out _⟩
              case measure => simp [intOf]; omega
            · have d3 : decide (0 < (k : Int)) = true := decide_eq_true (by omega)
              have g3 : 0 < (k : Int) := by omega
              have g3' : 0 < k := by omega
              have g3d : decide (0 < k) = true := decide_eq_true g3'
              obtain ⟨k1, hk1⟩ : ∃ k1, k1 + 1 = k := ⟨k - 1, by omega⟩
              have z1 : IntKind.i64.wrap ((k : Int) - 1) = (k1 : Int) := by rw [IntWalk.i64_in _ ⟨by omega, by omega⟩]; omega
              have hk1n : (k1 : Int) < (n : Int) := by omega
              have c1 := Hh.out.cat hb (show k1 < n by omega)
              obtain ⟨y, hy⟩ : ∃ y, cA l k1 = y := ⟨_, rfl⟩
              have hyk : cA l (k - 1) = y := by rw [show k - 1 = k1 by omega]; exact hy
              rw [hy] at c1
              rw [hyk] at HAT
              clear hy hyk
              by_cases a4 : x ≤ y
              · have HF := hid (HNO.out k hlt (fun e => by have := HAT.out.1 e; omega))
                have d4 : decide (x ≤ y) = true := decide_eq_true a4
                clear HAT HTK HC Hh HNO HYES HBT hbt hk1 hk0
                go_wp2
                go_quiet (fail)
                go_wp2
                go_ret2
                exact ⟨by rw [HF.out.1, HF.out.2]; rfl, below_drewN HB.out _⟩
              · have d4 : decide (x ≤ y) = false := decide_eq_false a4
                have hat : CelAt N l k := HAT.out.2 ⟨by omega, by omega, fun q => by omega⟩
                have HC2 := hid (HC.out.next (by omega) hat)
                have hb2 := HBT.out (k + 1) HC2.out
                rw [HTK.out] at hb2
                obtain ⟨xn, hxn⟩ : ∃ xn : Nat, x = xn := ⟨x.toNat, by omega⟩
                subst hxn
                rw [Int.toNat_natCast] at hb2 HTK
                have hxb : xn < 64 := by omega
                obtain ⟨PW, hPW⟩ : ∃ PW : Int, (2 : Int) ^ xn = PW := ⟨_, rfl⟩
                have hpw := pow2_pos xn
                rw [hPW] at hb2 HTK hpw
                have y1 : IntKind.i64.wrap (btS (l.take k) + PW) = btS (l.take k) + PW := IntWalk.i64_in _ ⟨by omega, by omega⟩
                have y2 : IntKind.i64.wrap PW = PW := IntWalk.i64_in _ ⟨by omega, by omega⟩
                have HB2 := hid hb
                generalize btS (l.take k) = BT at *
                clear hk1 hk0 HAT HC Hh HNO HYES HBT hbt hb2 hat
                go_wp2
                go_quiet (fail)
                go_wp2
                go_roundw
                case rel => exact ⟨k + 1, by omega, by rw [HTK.out], by go_num, HC2, below_drewN HB2.out _⟩
                case measure => simp [intOf]; omega
      · obtain rfl : k = n := by omega
        have hkz : ¬ ((k : Int) < (k : Int)) := by omega
        have HF : Hid (bzN c l = btS (l.take k) ∧ bzE c l = 0) := hid (by rw [List.take_of_length_le (by omega)]; exact HYES.out (by have := HC.out; rwa [List.take_of_length_le (by omega)] at this))
        have HB := hid (next hb1 hb)
        clear HC Hh HNO HYES HBT
        go_wp2
        go_ret2
        exact ⟨by rw [HF.out.1, HF.out.2]; rfl, HB.out⟩
  · rw [wdE_out hc] at cC
    obtain ⟨e1, e2⟩ := bz_f (c := c) (l := l) (fun e => hc e.1)
    rw [e1, e2]
    clear h e1 e2
    go_enter Tryd.func16, Tryd.ntmps16
    go_wp2_with (first
      | (go_at_call 32; with_reducible refine cC.mono ?_; rintro e w1 ⟨rfl, hb1⟩))
    go_ret2
    exact ⟨rfl, hb1⟩
end Go.Proofs.YtfnnelkipdajiaaDoor
