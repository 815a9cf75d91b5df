/- 'SlabBits' walked: the bits tell the cells, and how many. -/
import Derived.Test.YtfnnelkipdajiaaDoorMsB
import Derived.BigQuiet
namespace Go.Proofs.YtfnnelkipdajiaaDoor
set_option maxRecDepth 100000
open Go.RowKit
set_option linter.unusedVariables false
set_option linter.unusedSimpArgs false
set_option maxRecDepth 100000

theorem take_step {a b : List Int} {k : Nat} (hk : k < a.length) (hl : a.length = b.length) (h : a.take k = b.take k) : (a.take (k + 1) = b.take (k + 1)) ↔ cA a k = cA b k := by
  rw [take_cA hk, take_cA (by omega : k < b.length), h]
  constructor
  · intro e; simpa using e
  · intro e; rw [e]
theorem ctB_mid (x : Int) : ∀ k, 0 ≤ ctB x k ∧ ctB x k ≤ k
  | 0 => ⟨Int.le_refl _, Int.le_refl _⟩
  | k + 1 => by
    have := ctB_mid x k
    simp only [ctB]
    have h1 := Int.emod_nonneg (x / 2 ^ k) (show (2 : Int) ≠ 0 by decide)
    have h2 := Int.emod_lt_of_pos (x / 2 ^ k) (show (0 : Int) < 2 by decide)
    omega

theorem wr_pow : ∀ k, k < 15 → wrap64 ((2 : Int) ^ k) = 2 ^ k := fun k h => by
  have e : ∀ k, k < 15 → (0 : Int) ≤ 2 ^ k ∧ (2 : Int) ^ k ≤ 16384 := by decide
  have := e k h
  exact IntWalk.wrap64_in _ ⟨by omega, by omega⟩

set_option maxHeartbeats 4000000 in
theorem slabBits_walk (w : World) (T : Cws w) (c : Int) (hcw : (Lit.int .i64 c).wf = true) (ao : Option Addr) (n cap : Nat) (l : List Int) (h : Sl .i64 w ao n cap l) (hlw : ∀ z ∈ l, (Lit.int .i64 z).wf = true) (hc : cap * 8 ≤ 140737488351232) (bo : Option Addr) (m cap' : Nat) (l' : List Int) (h' : Sl .i64 w bo m cap' l') (hlw' : ∀ z ∈ l', (Lit.int .i64 z).wf = true) (hc' : cap' * 8 ≤ 140737488351232) :
    Calls Tryd.prog 7 #[.int .i64 c, .slice ao n cap, .slice bo m cap'] w fun e w' => e = .returned (.bool true) ∧ Below w.heap.size w w' := by
  have hl := h.len
  have hl' := h'.len
  have hn : n ≤ 9223372036854775807 := by have := h.room; omega
  have hm : m ≤ 9223372036854775807 := by have := h'.room; omega
  have cM := smallS_any w T
  have cA1 : ∀ w1, Below w.heap.size w w1 → _ := fun w1 hb => sbits_sl c ao n cap l w1 (h.below hb) hn (T.kept hb)
  have cA2 : ∀ w1, Below w.heap.size w w1 → _ := fun w1 hb => sbits_sl c bo m cap' l' w1 (h'.below hb) hm (T.kept hb)
  clear hcw hlw hlw' hc hc'
  by_cases hA : BitOk c l
  · obtain ⟨e1, e2⟩ := bz_t hA
    rw [e1, e2] at cA1
    by_cases hB : BitOk c l'
    · obtain ⟨e3, e4⟩ := bz_t hB
      rw [e3, e4] at cA2
      obtain ⟨g1, g2, g3⟩ := hA.low
      have HIJ := hid (bt_inj hA hB)
      have HCT := hid (ctB_bt hA)
      have cC : ∀ w1, Below w.heap.size w w1 → _ := fun w1 hb => cells_any c w1 (T.kept hb)
      rw [wdE_in hA.1] at cC
      obtain ⟨_, _, hN1, hN2, _⟩ := cls_in hA.1
      have HG : Hid (btS l < 2 ^ (ceN c).toNat) := hid g3
      clear e1 e2 e3 e4 hA hB T g3
      obtain ⟨NC, hNC⟩ : ∃ NC : Nat, ceN c = NC := ⟨(ceN c).toNat, by omega⟩
      rw [hNC] at cC HG hN1 hN2
      generalize btS l = BT at *
      generalize btS l' = BT2 at *
      go_enter Tryd.func7, Tryd.ntmps7
      go_wp2_with (first
        | (go_at_call 8; with_reducible refine cM.mono ?_; rintro e w1 ⟨rfl, hb1⟩)
        | (go_at_call 15; with_reducible refine (cA1 w1 hb1).mono ?_; rintro e w2 ⟨rfl, hb2⟩; have hb12 := next hb1 hb2; clear cA1)
        | (go_at_call 15; with_reducible refine (cA2 w2 hb12).mono ?_; rintro e w3 ⟨rfl, hb3⟩; have hb13 := next hb12 hb3; clear cA2))
      clear cM
      go_loopw [12, 13] (fun s12 s13 wr => ∃ (k : Nat) (β : Bool), k ≤ n ∧ s12 = .bool β ∧ s13 = .int .i64 k ∧ Hid ((β = true → n = m ∧ l.take k = l'.take k) ∧ (β = false → l ≠ l')) ∧ Below w.heap.size w wr) (fun s12 s13 _ => n - (intOf s13).toNat)
      case atStart =>
        refine ⟨0, _, Nat.zero_le _, rfl, rfl, hid ⟨fun e => ⟨by have q : (n : Int) = m := (by simpa using e); omega, by simp⟩, fun e q => ?_⟩, hb13⟩
        subst q
        simp at e
        omega
      case round =>
        obtain ⟨k, β, hk, rfl, rfl, HE, hb⟩ := hrel
        clear hb1 hb2 hb3 hb12 hb13
        by_cases hlt : k < n
        · have hki : (k : Int) < (n : Int) := by omega
          cases β with
          | true =>
            obtain ⟨q1, q2⟩ := HE.out.1 rfl
            subst q1
            obtain ⟨b, o, rfl, _, _⟩ := h.here (by omega)
            obtain ⟨b', o', rfl, _, _⟩ := h'.here (by omega)
            have c0 := h.cat hb hlt
            have c1 := h'.cat hb hlt
            have HT := hid (take_step (by omega : k < l.length) (by omega) q2)
            have HNE : Hid (cA l k ≠ cA l' k → l ≠ l') := hid (fun e q => e (by rw [q]))
            have Hb := hid hb
            clear q2 hb HE
            generalize cA l k = x at *
            generalize cA l' k = y at *
            go_wp2
            go_quiet (fail)
            go_wp2
            go_roundw
            case rel => exact ⟨k + 1, _, by omega, rfl, by go_num, hid ⟨fun e => ⟨trivial, HT.out.2 (by simpa using e)⟩, fun e => HNE.out (by simpa using e)⟩, below_drewN Hb.out _⟩
            case measure => simp [intOf]; omega
          | false =>
            have HNE := hid (HE.out.2 rfl)
            clear HE
            have HX : Hid (¬ BT = BT2) := hid (fun e => HNE.out (HIJ.out.1 e))
            have Hb := hid hb
            go_wp2
            clear h h'
            go_loopw [14, 15] (fun s14 s15 wr => ∃ j : Nat, j ≤ 32 ∧ s14 = .int .i64 (ctB BT j) ∧ s15 = .int .i64 j ∧ Below w.heap.size w wr) (fun _ s15 _ => 32 - (intOf s15).toNat)
            case atStart => exact ⟨0, Nat.zero_le _, rfl, rfl, by first | exact Hb.out | exact below_drewN Hb.out _⟩
            case round =>
              obtain ⟨j, hj, rfl, rfl, hb⟩ := hrel
              have hcm := ctB_mid BT j
              by_cases hjl : j < 32
              · have hji : (j : Int) < 32 := by omega
                have hq : Int.tmod (BT / 2 ^ j) 2 = BT / 2 ^ j % 2 := Int.tmod_eq_emod_of_nonneg (Int.ediv_nonneg g1 (by have := pow2_pos j; omega))
                have h1 := Int.emod_nonneg (BT / 2 ^ j) (show (2 : Int) ≠ 0 by decide)
                have h2 := Int.emod_lt_of_pos (BT / 2 ^ j) (show (0 : Int) < 2 by decide)
                have HS : Hid (ctB BT (j + 1) = ctB BT j + BT / 2 ^ j % 2) := hid rfl
                have Hb := hid hb
                have y1 : IntKind.i64.wrap (ctB BT j + BT / 2 ^ j % 2) = ctB BT j + BT / 2 ^ j % 2 := IntWalk.i64_in _ ⟨by omega, by omega⟩
                go_wp2
                go_roundw
                case rel => exact ⟨j + 1, by omega, by rw [HS.out, ← hq], by go_num, by first | exact Hb.out | exact below_drewN Hb.out _⟩
                case measure => simp [intOf]; omega
              · obtain rfl : j = 32 := by omega
                have hct := HCT.out
                rw [hct, hl] at *
                have cC1 := cC _ hb
                have hGG := HG.out
                have b1 : BT < 2 ^ NC := by simpa using hGG
                have b2 : wrap64 ((2 : Int) ^ NC) = 2 ^ NC := wr_pow NC (by omega)
                have Hb1 := hid b1
                have Hb2 := hid b2
                clear b1 b2 hGG
                clear HG HCT HIJ cC
                go_wp2_with (go_at_call 23; with_reducible refine cC1.mono ?_; rintro e w' ⟨rfl, rfl⟩; clear cC1)
                go_ret
                refine ⟨?_, hb⟩
                have b1 := Hb1.out
                have b2 : wrap64 ((2 : Int) ^ NC) = 2 ^ NC := Hb2.out
                have hx := HX.out
                simp [hx, g1, b2, b1]
        · obtain rfl : k = n := by omega
          have hki : ¬ ((k : Int) < (k : Int)) := by omega
          cases β with
          | true =>
            obtain ⟨q1, q2⟩ := HE.out.1 rfl
            have HX : Hid (BT = BT2) := hid (HIJ.out.2 (by rw [List.take_of_length_le (by omega), List.take_of_length_le (by omega)] at q2; exact q2))
            clear q2 HE
            have Hb := hid hb
            go_wp2
            clear h h'
            go_loopw [14, 15] (fun s14 s15 wr => ∃ j : Nat, j ≤ 32 ∧ s14 = .int .i64 (ctB BT j) ∧ s15 = .int .i64 j ∧ Below w.heap.size w wr) (fun _ s15 _ => 32 - (intOf s15).toNat)
            case atStart => exact ⟨0, Nat.zero_le _, rfl, rfl, by first | exact Hb.out | exact below_drewN Hb.out _⟩
            case round =>
              obtain ⟨j, hj, rfl, rfl, hb⟩ := hrel
              have hcm := ctB_mid BT j
              by_cases hjl : j < 32
              · have hji : (j : Int) < 32 := by omega
                have hq : Int.tmod (BT / 2 ^ j) 2 = BT / 2 ^ j % 2 := Int.tmod_eq_emod_of_nonneg (Int.ediv_nonneg g1 (by have := pow2_pos j; omega))
                have h1 := Int.emod_nonneg (BT / 2 ^ j) (show (2 : Int) ≠ 0 by decide)
                have h2 := Int.emod_lt_of_pos (BT / 2 ^ j) (show (0 : Int) < 2 by decide)
                have HS : Hid (ctB BT (j + 1) = ctB BT j + BT / 2 ^ j % 2) := hid rfl
                have Hb := hid hb
                have y1 : IntKind.i64.wrap (ctB BT j + BT / 2 ^ j % 2) = ctB BT j + BT / 2 ^ j % 2 := IntWalk.i64_in _ ⟨by omega, by omega⟩
                go_wp2
                go_roundw
                case rel => exact ⟨j + 1, by omega, by rw [HS.out, ← hq], by go_num, by first | exact Hb.out | exact below_drewN Hb.out _⟩
                case measure => simp [intOf]; omega
              · obtain rfl : j = 32 := by omega
                have hct := HCT.out
                rw [hct, hl] at *
                have cC1 := cC _ hb
                have hGG := HG.out
                have b1 : BT < 2 ^ NC := by simpa using hGG
                have b2 : wrap64 ((2 : Int) ^ NC) = 2 ^ NC := wr_pow NC (by omega)
                have Hb1 := hid b1
                have Hb2 := hid b2
                clear b1 b2 hGG
                clear HG HCT HIJ cC
                go_wp2_with (go_at_call 23; with_reducible refine cC1.mono ?_; rintro e w' ⟨rfl, rfl⟩; clear cC1)
                go_ret
                refine ⟨?_, hb⟩
                have b1 := Hb1.out
                have b2 : wrap64 ((2 : Int) ^ NC) = 2 ^ NC := Hb2.out
                have hx := HX.out
                subst hx
                simp [g1, b2, b1]
          | false =>
            have HX : Hid (¬ BT = BT2) := hid (fun e => HE.out.2 rfl (HIJ.out.1 e))
            clear HE
            have Hb := hid hb
            go_wp2
            clear h h'
            go_loopw [14, 15] (fun s14 s15 wr => ∃ j : Nat, j ≤ 32 ∧ s14 = .int .i64 (ctB BT j) ∧ s15 = .int .i64 j ∧ Below w.heap.size w wr) (fun _ s15 _ => 32 - (intOf s15).toNat)
            case atStart => exact ⟨0, Nat.zero_le _, rfl, rfl, by first | exact Hb.out | exact below_drewN Hb.out _⟩
            case round =>
              obtain ⟨j, hj, rfl, rfl, hb⟩ := hrel
              have hcm := ctB_mid BT j
              by_cases hjl : j < 32
              · have hji : (j : Int) < 32 := by omega
                have hq : Int.tmod (BT / 2 ^ j) 2 = BT / 2 ^ j % 2 := Int.tmod_eq_emod_of_nonneg (Int.ediv_nonneg g1 (by have := pow2_pos j; omega))
                have h1 := Int.emod_nonneg (BT / 2 ^ j) (show (2 : Int) ≠ 0 by decide)
                have h2 := Int.emod_lt_of_pos (BT / 2 ^ j) (show (0 : Int) < 2 by decide)
                have HS : Hid (ctB BT (j + 1) = ctB BT j + BT / 2 ^ j % 2) := hid rfl
                have Hb := hid hb
                have y1 : IntKind.i64.wrap (ctB BT j + BT / 2 ^ j % 2) = ctB BT j + BT / 2 ^ j % 2 := IntWalk.i64_in _ ⟨by omega, by omega⟩
                go_wp2
                go_roundw
                case rel => exact ⟨j + 1, by omega, by rw [HS.out, ← hq], by go_num, by first | exact Hb.out | exact below_drewN Hb.out _⟩
                case measure => simp [intOf]; omega
              · obtain rfl : j = 32 := by omega
                have hct := HCT.out
                rw [hct, hl] at *
                have cC1 := cC _ hb
                have hGG := HG.out
                have b1 : BT < 2 ^ NC := by simpa using hGG
                have b2 : wrap64 ((2 : Int) ^ NC) = 2 ^ NC := wr_pow NC (by omega)
                have Hb1 := hid b1
                have Hb2 := hid b2
                clear b1 b2 hGG
                clear HG HCT HIJ cC
                go_wp2_with (go_at_call 23; with_reducible refine cC1.mono ?_; rintro e w' ⟨rfl, rfl⟩; clear cC1)
                go_ret
                refine ⟨?_, hb⟩
                have b1 := Hb1.out
                have b2 : wrap64 ((2 : Int) ^ NC) = 2 ^ NC := Hb2.out
                have hx := HX.out
                simp [hx, g1, b2, b1]
    · obtain ⟨e3, e4⟩ := bz_f hB
      rw [e3, e4] at cA2
      clear e1 e2 e3 e4 hA hB T h h'
      generalize btS l = BT at *
      go_enter Tryd.func7, Tryd.ntmps7
      go_wp2_with (first
        | (go_at_call 8; with_reducible refine cM.mono ?_; rintro e w1 ⟨rfl, hb1⟩)
        | (go_at_call 15; with_reducible refine (cA1 w1 hb1).mono ?_; rintro e w2 ⟨rfl, hb2⟩; have hb12 := next hb1 hb2; clear cA1)
        | (go_at_call 15; with_reducible refine (cA2 w2 hb12).mono ?_; rintro e w3 ⟨rfl, hb3⟩; have hb13 := next hb12 hb3; clear cA2))
      go_ret
      exact ⟨rfl, hb13⟩
  · obtain ⟨e1, e2⟩ := bz_f hA
    rw [e1, e2] at cA1
    clear e1 e2 hA T h h'
    generalize bzN c l' = BN at *
    generalize bzE c l' = BE at *
    go_enter Tryd.func7, Tryd.ntmps7
    go_wp2_with (first
      | (go_at_call 8; with_reducible refine cM.mono ?_; rintro e w1 ⟨rfl, hb1⟩)
      | (go_at_call 15; with_reducible refine (cA1 w1 hb1).mono ?_; rintro e w2 ⟨rfl, hb2⟩; have hb12 := next hb1 hb2; clear cA1)
      | (go_at_call 15; with_reducible refine (cA2 w2 hb12).mono ?_; rintro e w3 ⟨rfl, hb3⟩; have hb13 := next hb12 hb3; clear cA2))
    go_ret
    exact ⟨rfl, hb13⟩
end Go.Proofs.YtfnnelkipdajiaaDoor
