/- joistref13.Kinds by its contract. -/
import Derived.Test.YtlghhhhgfnnjgaaDoorRefPagB
import Derived.Test.YtlghhhhgfnnjgaaDoorPagN
import Derived.Laws.CopyOwn
namespace Go.Proofs.YtlghhhhgfnnjgaaDoor
set_option maxRecDepth 100000
open Go.RowKit
set_option linter.unusedVariables false
set_option linter.unusedSimpArgs false
set_option maxRecDepth 100000

set_option maxHeartbeats 4000000 in
theorem rkinds_in (N : Nat) (hN : N ≤ 64) (ao : Option Addr) (n cap : Nat) (l : List Spn) (w : World) (h : Ps w ao n cap l) (hn : n ≤ 9223372036854775807) :
    Calls Tryd.prog 11 #[.int .i64 N, .slice ao n cap] w fun e w' => ∃ bo m c, e = .returned (.tuple #[.slice bo m c, .bool (rtO N l)]) ∧ Own .i64 3 w.heap.size w' bo m c (kzL N l) ∧ Below w.heap.size w w' := by
  have hl := h.len
  obtain ⟨i0, hi, hz0, hz1, hz2⟩ := info_parts Tryd.info3
  have hN1 : (N : Int) ≤ 64 := by omega
  have HRN : Hid (RightO N []) := hid (RightO.nil ⟨by omega, by omega⟩)
  have HFA : Hid (∀ w', Below w.heap.size w w' → ∀ k, ¬ RightO N (l.take k) → ∃ bo m c, Ending.returned (.tuple #[.slice none 0 0, .bool false]) = .returned (.tuple #[.slice bo m c, .bool (rtO N l)]) ∧ Own .i64 3 w.heap.size w' bo m c (kzL N l) ∧ Below w.heap.size w w') := hid (fun w' hb k hk => by
    obtain ⟨e1, e2⟩ := kz_f (rightO_prefix hk)
    rw [e1, e2]
    exact ⟨none, 0, 0, rfl, own_nil _ _ _ _, hb⟩)
  go_enter Tryd.func11, Tryd.ntmps11
  go_wp2_with (at_make; refine wpList_make_full _ rfl _ _ 24 rfl w.heap.size 3 i0 (.int .i64 0) 1 Tryd.underlying24 hi hz0 hz1 .i64 .i64 _ _ N rfl rfl ?b0 ?b1 ?b2 ?b3 ?b4 ?_)
  case b0 => rfl
  case b1 => rfl
  case b2 => rw [hz2]; omega
  case b3 => unfold maxLen; omega
  case b4 => exact Nat.le_refl _
  intro w1 hown hgrow
  have hbel : Below w.heap.size w w1 := (Below.refl _ _).grown hgrow (Nat.le_refl _) (by intro k hk; cases hk)
  have HO1 : Hid (Own .i64 3 w.heap.size w1 (some ⟨w.heap.size, 0, none⟩) N N (fpL N 0)) := hid ⟨by simp [fpL], by
    rw [frL_zero]
    have hm : (madeCells #[Value.int .i64 0] N).toList = (List.replicate N (0 : Int)).map (Value.int .i64) := by rw [toList_madeCells_one]; simp
    rw [← hm]
    exact hown⟩
  clear hown hgrow hi hz0 hz1 hz2
  go_wp2
  go_loopw [7] (fun s7 wr => ∃ k : Nat, k ≤ N ∧ s7 = .int .i64 k ∧ Hid (Own .i64 3 w.heap.size wr (some ⟨w.heap.size, 0, none⟩) N N (fpL N k)) ∧ Below w.heap.size w wr) (fun s7 _ => N - (intOf s7).toNat)
  case atStart => exact ⟨0, Nat.zero_le _, rfl, HO1, hbel⟩
  case round =>
    clear HO1 hbel
    obtain ⟨k, hk, rfl, HO, hb⟩ := hrel
    by_cases hlt : k < N
    · have hki : (k : Int) < (N : Int) := by omega
      have c0 := HO.out.at k hlt rfl
      have f0 := HO.out.row.frozenAt k
      have HO2 : Hid (Own .i64 3 w.heap.size (wr.setCell ⟨w.heap.size, k, none⟩ (.int .i64 (-1))) (some ⟨w.heap.size, 0, none⟩) N N (fpL N (k + 1))) := hid (by rw [← frL_set]; exact HO.out.set k (-1))
      clear HO h
      go_wp2
      go_roundw
      case rel => exact ⟨k + 1, by omega, by go_num, HO2, hb.setCell (Nat.le_refl _) _⟩
      case measure => simp [intOf]; omega
    · obtain rfl : k = N := by omega
      have HO2 : Hid (Own .i64 3 w.heap.size wr (some ⟨w.heap.size, 0, none⟩) k k (kzN k (l.take 0))) := hid (by
        have := frL_all (k : Int)
        rw [show (k : Int).toNat = k by omega] at this
        rw [List.take_zero, ← this]; exact HO.out)
      clear HO
      go_wp2
      go_loopw [8] (fun s8 wq => ∃ i : Nat, i ≤ n ∧ s8 = .int .i64 i ∧ Hid (RightO k (l.take i)) ∧ Hid (Own .i64 3 w.heap.size wq (some ⟨w.heap.size, 0, none⟩) k k (kzN k (l.take i))) ∧ Below w.heap.size w wq) (fun s8 _ => n - (intOf s8).toNat)
      case atStart => exact ⟨0, Nat.zero_le _, rfl, HRN, HO2, hb⟩
      case round =>
        clear HO2 hb HRN
        obtain ⟨i, hi, rfl, HR, HO, hb⟩ := hrel
        by_cases hlt2 : i < n
        · obtain ⟨b, o, rfl, hbl, _⟩ := h.here (by omega)
          have hii : (i : Int) < (n : Int) := by omega
          have hrg := h.rgs hlt2
          have HA := hid (fun w' (hb' : Below w.heap.size w w') => h.at hb' hlt2)
          have HAJ := hid (fun w' (hb' : Below w.heap.size w w') j (hj : j < n) => h.at hb' hj)
          obtain ⟨c0, c1⟩ := HA.out _ hb
          have HT := hid (take_pa (l := l) (k := i) (by omega))
          have cS := rspan_any k (pa l i) wr hrg (by omega)
          have HPA : Hid (∀ j, j < i → pa l j ∈ l.take i) := hid (fun j hj => by
            have e : pa (l.take i) j = pa l j := by simp [pa, List.getD, hj]
            rw [← e]
            exact pa_mem (by simp; omega))
          have HTM : Hid (∀ a ∈ l.take i, ∃ t, t < i ∧ pa l t = a) := hid (fun a ha => by
            obtain ⟨t, ht, rfl⟩ := mem_pa ha
            have ht' : t < i := by simp at ht; omega
            exact ⟨t, ht', by simp [pa, List.getD, ht']⟩)
          by_cases hin : InC k (pa l i)
          · rw [inB_t hin, spO_in hin] at cS
            by_cases hs : (pa l i).sz ≤ 120
            · skip
              obtain ⟨f1, f2, f3⟩ := sm_t (hin.small hs).1
              obtain ⟨hw1, hw2⟩ := hin.within
              obtain ⟨q, hq⟩ : ∃ q : Nat, pgA (pa l i) = q := ⟨(pgA (pa l i)).toNat, by omega⟩
              have hqk : q < k := by rw [hq, pgK_small hs] at hw2; omega
              have hqi : (q : Int) < (k : Int) := by omega
              have cC := fun w' => rcellO_any (pa l i) w' hrg
              simp only [f1, f2, f3, hq] at cC
              simp only [hq, pgK_small hs] at cS
              have HSM := hid (HR.out.small hs)
              rw [hq] at HSM
              have HST : Hid (RightO k (l.take (i + 1)) → kzN k (l.take (i + 1)) = (kzN k (l.take i)).set q (clN (pa l i).sz)) := hid (fun c => by
                rw [HT.out] at c ⊢
                have := kzN_small c hs
                rw [hq] at this
                exact this)
              have HIN := hid hin
              have hcr := clN_lt (pa l i).sz
              have HOV0 := hid (kzN_at (P := k) (l := l.take i) (i := q) (by omega) 0)
              have hVR := kdL_rg (l.take i) q
              clear hin f1 f2 f3 hw1 hw2 hs
              generalize hcls : (clN (pa l i).sz : Int) = cls at *
              have hc0 : 0 ≤ cls := by omega
              have hc5 : cls ≤ 5 := by omega
              clear hcr hcls
              obtain ⟨V, hV⟩ : ∃ V, kdL (l.take i) q = V := ⟨_, rfl⟩
              have HOV : Hid ((kzN k (l.take i)).getD q 0 = V) := hid (HOV0.out.trans hV)
              have HVV0 := hid hV
              rw [hV] at hVR
              clear hV HOV0
              have HPO : Hid (∀ a ∈ l.take i, FitO a (pa l i) → a.pos ≠ (pa l i).pos) := hid (fun a _ hf => hf.1)
              generalize pa l i = ob at *
              obtain ⟨p, z⟩ := ob
              simp only at c0 c1 cC cS
              by_cases hv1 : V = -1
              · have HVV : Hid (kdL (l.take i) q = -1 ∨ kdL (l.take i) q = cls) := hid (Or.inl (HVV0.out.trans hv1))
                have hvd : (V != -1) = false := by simpa using hv1
                clear hv1 HVV0 h hVR
                go_wp2_with (first
                  | (go_at_call 29; with_reducible refine cS.mono ?_; rintro e w2 ⟨rfl, hb2⟩; have hb2a := hb2.alloc hb2.size (.cells #[.int .i64 (q : Int), .int .i64 1] 58); obtain ⟨d0, d1⟩ := HA.out _ (next hb hb2a))
                  | (go_at_call 30; with_reducible refine (cC _).mono ?_; rintro e w3 ⟨rfl, hb3⟩; have hb3a := next hb2a hb3; have hb3b := next hb hb3a; have e0 := (HO.out.below hb3a).at q hqk HOV.out; have e1 := (HO.out.below hb3a).row.frozenAt q))
                clear hvd
                go_loopw [15] (fun s15 wq => ∃ j : Nat, j ≤ i ∧ s15 = .int .i64 j ∧ Hid (∀ t, t < j → (pa l t).pos ≠ p) ∧ Below w3.heap.size w3 wq) (fun s15 _ => i - (intOf s15).toNat)
                case atStart => exact ⟨0, Nat.zero_le _, rfl, hid (fun t h => absurd h (by omega)), Below.refl _ _⟩
                case round =>
                  clear e0 e1
                  obtain ⟨j, hj, rfl, HJ, hbq⟩ := hrel
                  have HBW := hid (next hb3b hbq)
                  by_cases hji : j < i
                  · have hjii : (j : Int) < (i : Int) := by omega
                    have hjn : (j : Int) < (n : Int) := by omega
                    obtain ⟨x0, _⟩ := HAJ.out _ HBW.out j (by omega)
                    obtain ⟨y0, _⟩ := HA.out _ HBW.out
                    have HJT := hid (HPA.out j hji)
                    by_cases he : (pa l j).pos = p
                    · have HNR : Hid (¬ RightO k (l.take (i + 1))) := hid (fun c => by
                        rw [HT.out] at c
                        exact (((rightO_snoc.1 c).2.2 _ HJT.out).1) he)
                      generalize pa l j = u at *
                      obtain ⟨p1, z1⟩ := u
                      simp only at x0 y0 he
                      have hed : (p1 == p) = true := by simpa using he
                      clear HJ HA HAJ HPA HJT HSM HST HO HR HT he
                      go_wp2
                      go_quiet (fail)
                      go_wp2
                      go_ret2
                      exact HFA.out _ (below_drewN HBW.out _) (i + 1) HNR.out
                    · have HJ2 : Hid (∀ t, t < j + 1 → (pa l t).pos ≠ p) := hid (fun t ht => by
                        by_cases c : t < j
                        · exact HJ.out t c
                        · obtain rfl : t = j := by omega
                          exact he)
                      generalize pa l j = u at *
                      obtain ⟨p1, z1⟩ := u
                      simp only at x0 y0 he
                      have hed : (p1 == p) = false := by simpa using he
                      clear HJ HA HAJ HPA HJT HSM HST HO HR HT he HFA
                      go_wp2
                      go_quiet (fail)
                      go_wp2
                      go_roundw
                      case rel => exact ⟨j + 1, by omega, by go_num, HJ2, below_drewN hbq _⟩
                      case measure => simp [intOf]; omega
                  · obtain rfl : j = i := by omega
                    have HRN2 : Hid (RightO k (l.take (j + 1))) := hid (by
                      rw [HT.out]
                      refine HSM.out.2 ⟨HIN.out, HVV.out, fun a ha => ?_⟩
                      obtain ⟨t, ht, rfl⟩ := HTM.out a ha
                      exact HJ.out t ht)
                    have HOQ := hid (HO.out.below (next hb3a hbq))
                    have x0 := HOQ.out.at q hqk rfl
                    have x1 := HOQ.out.row.frozenAt q
                    have HO4 := hid (HOQ.out.set q cls)
                    have HKZ : Hid (kzN k (l.take (j + 1)) = (kzN k (l.take j)).set q cls) := hid (HST.out HRN2.out)
                    clear HJ HA HAJ HPA HSM HST HO HR HT HOQ HFA
                    go_wp2
                    go_roundw
                    case rel => exact ⟨j + 1, by omega, by go_num, HRN2, by rw [HKZ.out]; exact HO4, HBW.out.setCell (Nat.le_refl _) _⟩
                    case measure => simp [intOf]; omega
              · have hvd : (V != -1) = true := by simpa using hv1
                by_cases hv2 : V = cls
                · have HVV : Hid (kdL (l.take i) q = -1 ∨ kdL (l.take i) q = cls) := hid (Or.inr (HVV0.out.trans hv2))
                  have hvd2 : (V != cls) = false := by simpa using hv2
                  clear hv1 hv2 HVV0 h hVR
                  go_wp2_with (first
                    | (go_at_call 29; with_reducible refine cS.mono ?_; rintro e w2 ⟨rfl, hb2⟩; have hb2a := hb2.alloc hb2.size (.cells #[.int .i64 (q : Int), .int .i64 1] 58); obtain ⟨d0, d1⟩ := HA.out _ (next hb hb2a))
                    | (go_at_call 30; with_reducible refine (cC _).mono ?_; rintro e w3 ⟨rfl, hb3⟩; have hb3a := next hb2a hb3; have hb3b := next hb hb3a; have e0 := (HO.out.below hb3a).at q hqk HOV.out; have e1 := (HO.out.below hb3a).row.frozenAt q))
                  clear hvd hvd2
                  go_loopw [15] (fun s15 wq => ∃ j : Nat, j ≤ i ∧ s15 = .int .i64 j ∧ Hid (∀ t, t < j → (pa l t).pos ≠ p) ∧ Below w3.heap.size w3 wq) (fun s15 _ => i - (intOf s15).toNat)
                  case atStart => exact ⟨0, Nat.zero_le _, rfl, hid (fun t h => absurd h (by omega)), Below.refl _ _⟩
                  case round =>
                    clear e0 e1
                    obtain ⟨j, hj, rfl, HJ, hbq⟩ := hrel
                    have HBW := hid (next hb3b hbq)
                    by_cases hji : j < i
                    · have hjii : (j : Int) < (i : Int) := by omega
                      have hjn : (j : Int) < (n : Int) := by omega
                      obtain ⟨x0, _⟩ := HAJ.out _ HBW.out j (by omega)
                      obtain ⟨y0, _⟩ := HA.out _ HBW.out
                      have HJT := hid (HPA.out j hji)
                      by_cases he : (pa l j).pos = p
                      · have HNR : Hid (¬ RightO k (l.take (i + 1))) := hid (fun c => by
                          rw [HT.out] at c
                          exact (((rightO_snoc.1 c).2.2 _ HJT.out).1) he)
                        generalize pa l j = u at *
                        obtain ⟨p1, z1⟩ := u
                        simp only at x0 y0 he
                        have hed : (p1 == p) = true := by simpa using he
                        clear HJ HA HAJ HPA HJT HSM HST HO HR HT he
                        go_wp2
                        go_quiet (fail)
                        go_wp2
                        go_ret2
                        exact HFA.out _ (below_drewN HBW.out _) (i + 1) HNR.out
                      · have HJ2 : Hid (∀ t, t < j + 1 → (pa l t).pos ≠ p) := hid (fun t ht => by
                          by_cases c : t < j
                          · exact HJ.out t c
                          · obtain rfl : t = j := by omega
                            exact he)
                        generalize pa l j = u at *
                        obtain ⟨p1, z1⟩ := u
                        simp only at x0 y0 he
                        have hed : (p1 == p) = false := by simpa using he
                        clear HJ HA HAJ HPA HJT HSM HST HO HR HT he HFA
                        go_wp2
                        go_quiet (fail)
                        go_wp2
                        go_roundw
                        case rel => exact ⟨j + 1, by omega, by go_num, HJ2, below_drewN hbq _⟩
                        case measure => simp [intOf]; omega
                    · obtain rfl : j = i := by omega
                      have HRN2 : Hid (RightO k (l.take (j + 1))) := hid (by
                        rw [HT.out]
                        refine HSM.out.2 ⟨HIN.out, HVV.out, fun a ha => ?_⟩
                        obtain ⟨t, ht, rfl⟩ := HTM.out a ha
                        exact HJ.out t ht)
                      have HOQ := hid (HO.out.below (next hb3a hbq))
                      have x0 := HOQ.out.at q hqk rfl
                      have x1 := HOQ.out.row.frozenAt q
                      have HO4 := hid (HOQ.out.set q cls)
                      have HKZ : Hid (kzN k (l.take (j + 1)) = (kzN k (l.take j)).set q cls) := hid (HST.out HRN2.out)
                      clear HJ HA HAJ HPA HSM HST HO HR HT HOQ HFA
                      go_wp2
                      go_roundw
                      case rel => exact ⟨j + 1, by omega, by go_num, HRN2, by rw [HKZ.out]; exact HO4, HBW.out.setCell (Nat.le_refl _) _⟩
                      case measure => simp [intOf]; omega
                · have HNR : Hid (¬ RightO k (l.take (i + 1))) := hid (fun c => by
                    rw [HT.out] at c
                    rcases (HSM.out.1 c).2.1 with x | x
                    · exact hv1 (HVV0.out.symm.trans x)
                    · exact hv2 (HVV0.out.symm.trans x))
                  have hvd2 : (V != cls) = true := by simpa using hv2
                  clear hv1 hv2 HVV0 h hVR
                  go_wp2_with (first
                    | (go_at_call 29; with_reducible refine cS.mono ?_; rintro e w2 ⟨rfl, hb2⟩; have hb2a := hb2.alloc hb2.size (.cells #[.int .i64 (q : Int), .int .i64 1] 58); obtain ⟨d0, d1⟩ := HA.out _ (next hb hb2a))
                    | (go_at_call 30; with_reducible refine (cC _).mono ?_; rintro e w3 ⟨rfl, hb3⟩; have hb3a := next hb2a hb3; have hb3b := next hb hb3a; have e0 := (HO.out.below hb3a).at q hqk HOV.out; have e1 := (HO.out.below hb3a).row.frozenAt q))
                  go_ret2
                  exact HFA.out _ hb3b (i + 1) HNR.out
            · skip
              have hsm : ¬ SmC (pa l i) := fun c => hs c.1.2
              have cC := fun w' => rcellO_any (pa l i) w' hrg
              simp only [sm_f hsm] at cC
              obtain ⟨hw1, hw2⟩ := hin.within
              obtain ⟨hk1, hk2⟩ := hin.pgk
              obtain ⟨q, hq⟩ : ∃ q : Nat, pgA (pa l i) = q := ⟨(pgA (pa l i)).toNat, by omega⟩
              obtain ⟨K, hK⟩ : ∃ K : Nat, pgK (pa l i) = K := ⟨(pgK (pa l i)).toNat, by omega⟩
              simp only [hq, hK] at cS
              rw [hq, hK] at hw2
              rw [hK] at hk1 hk2
              have HLG := hid (HR.out.large hs)
              have HHC : Hid (∀ x : Int, HasC (pa l i) x ↔ (q : Int) ≤ x ∧ x < (q : Int) + K) := hid (fun x => by unfold HasC; rw [hq, hK])
              have HST : Hid (RightO k (l.take (i + 1)) → kzN k (l.take (i + 1)) = (lgL k (l.take i) q K).set q 6) := hid (fun c => by
                rw [HT.out] at c ⊢
                have := kzN_large c hs
                rw [hq, hK] at this
                simpa using this)
              have HIN := hid hin
              generalize cpN (pa l i) = pp at *
              generalize ccN (pa l i) = cc at *
              generalize ckN (pa l i) = kk at *
              have x1 : IntKind.i64.wrap ((q : Int) + (K : Int)) = ((q + K : Nat) : Int) := by rw [IntWalk.i64_in _ ⟨by omega, by omega⟩]; omega
              have hqK : q + K ≤ k := by omega
              have hqk : q < k := by omega
              have hqi : (q : Int) < (k : Int) := by omega
              clear hin hs hsm hq hK hw1 hw2
              generalize pa l i = ob at *
              obtain ⟨p, z⟩ := ob
              simp only at c0 c1 cC cS
              clear h
              go_wp2_with (first
                | (go_at_call 29; with_reducible refine cS.mono ?_; rintro e w2 ⟨rfl, hb2⟩; have hb2a := hb2.alloc hb2.size (.cells #[.int .i64 (q : Int), .int .i64 (K : Int)] 58); have XC := bxP_new' w2 q K; obtain ⟨d0, d1⟩ := HA.out _ (next hb hb2a))
                | (go_at_call 30; with_reducible refine (cC _).mono ?_; rintro e w3 ⟨rfl, hb3⟩; have hb3a := next hb2a hb3; have hb3b := next hb hb3a; have XC3 := XC.kept hb3; obtain ⟨e0, e1, _, _⟩ := XC3.cells; have HO3 := hid (HO.out.below hb3a)))
              have hCne : w2.heap.size ≠ w.heap.size := by
                have h1 := World.block_lt_of_cell? _ _ (HO.out.at q hqk rfl)
                have h2 := hb2.size
                simp only at h1
                omega
              have HO4 : Hid (Own .i64 3 w.heap.size w3 (some ⟨w.heap.size, 0, none⟩) k k (lgL k (l.take i) q 0)) := hid (by rw [lgL_zero]; exact HO3.out)
              have HXC3 := hid XC3
              clear HO HO3 XC XC3 HA HAJ HPA HTM e0 e1 d0 d1 c0 c1
              go_loopw [16] (fun s16 wq => ∃ j : Nat, j ≤ K ∧ s16 = .int .i64 ((q + j : Nat) : Int) ∧ Hid (∀ t, t < j → kdL (l.take i) ((q + t : Nat) : Int) = -1) ∧ Hid (Own .i64 3 w.heap.size wq (some ⟨w.heap.size, 0, none⟩) k k (lgL k (l.take i) q j)) ∧ Hid (BxP wq w2.heap.size ⟨q, K⟩) ∧ Below w.heap.size w wq) (fun s16 _ => q + K - (intOf s16).toNat)
              case atStart => exact ⟨0, Nat.zero_le _, rfl, hid (fun t h => absurd h (by omega)), HO4, HXC3, hb3b⟩
              case round =>
                clear HO4 HXC3
                obtain ⟨j, hj, rfl, HJ, HOQ, HXC, hbq⟩ := hrel
                obtain ⟨y0, y1, _, _⟩ := HXC.out.cells
                simp only at y0 y1
                by_cases hjK : j < K
                · have hjn : ((q + j : Nat) : Int) < ((q + K : Nat) : Int) := by omega
                  have hjk : ((q + j : Nat) : Int) < (k : Int) := by omega
                  obtain ⟨V, hV⟩ : ∃ V, kdL (l.take i) ((q + j : Nat) : Int) = V := ⟨_, rfl⟩
                  have z0 := HOQ.out.at (q + j) (by omega) ((lgL_at (P := k) (l := l.take i) (a := q) (j := j) (by omega) 0).trans hV)
                  have z1 := HOQ.out.row.frozenAt (q + j)
                  by_cases hv : V = -1
                  · have HJ2 : Hid (∀ t, t < j + 1 → kdL (l.take i) ((q + t : Nat) : Int) = -1) := hid (fun t ht => by
                      by_cases c : t < j
                      · exact HJ.out t c
                      · obtain rfl : t = j := by omega
                        exact hV.trans hv)
                    have hvd : (V != -1) = false := by simpa using hv
                    have HO5 : Hid (Own .i64 3 w.heap.size (wr.setCell ⟨w.heap.size, q + j, none⟩ (.int .i64 7)) (some ⟨w.heap.size, 0, none⟩) k k (lgL k (l.take i) q (j + 1))) := hid (by rw [← lgL_set]; exact HOQ.out.set (q + j) 7)
                    have HX5 : Hid (BxP (wr.setCell ⟨w.heap.size, q + j, none⟩ (.int .i64 7)) w2.heap.size ⟨q, K⟩) := hid (HXC.out.off (F := fun j => j = w.heap.size) ((Off.refl _ _).setCell _ _ rfl) hCne)
                    clear HJ hV hv HOQ HXC HLG HHC HST HFA HR HT HIN
                    go_wp2
                    go_roundw
                    case rel => exact ⟨j + 1, by omega, by go_num, HJ2, HO5, HX5, hbq.setCell (Nat.le_refl _) _⟩
                    case measure => simp [intOf]; omega
                  · have HNR : Hid (¬ RightO k (l.take (i + 1))) := hid (fun c => by
                      rw [HT.out] at c
                      exact hv (hV.symm.trans ((HLG.out.1 c).2 _ ((HHC.out _).2 ⟨by omega, by omega⟩))))
                    have hvd : (V != -1) = true := by simpa using hv
                    clear HJ hV hv HOQ HXC HLG HHC HST HR HT HIN
                    go_wp2
                    go_ret2
                    exact HFA.out _ hbq (i + 1) HNR.out
                · obtain rfl : j = K := by omega
                  have HRN2 : Hid (RightO k (l.take (i + 1))) := hid (by
                    rw [HT.out]
                    refine HLG.out.2 ⟨HIN.out, fun x hx => ?_⟩
                    obtain ⟨a1, a2⟩ := (HHC.out x).1 hx
                    have := HJ.out (x.toNat - q) (by omega)
                    rwa [show ((q + (x.toNat - q) : Nat) : Int) = x by omega] at this)
                  have HKZ : Hid (kzN k (l.take (i + 1)) = (lgL k (l.take i) q j).set q 6) := hid (HST.out HRN2.out)
                  have z0 := HOQ.out.at q hqk rfl
                  have z1 := HOQ.out.row.frozenAt q
                  have HO5 := hid (HOQ.out.set q 6)
                  have hnj : ¬ (((q + j : Nat) : Int) < ((q + j : Nat) : Int)) := by omega
                  clear HJ HOQ HXC HLG HHC HST HFA HR HT HIN
                  go_wp2
                  go_roundw
                  case rel => exact ⟨i + 1, by omega, by go_num, HRN2, by rw [HKZ.out]; exact HO5, hbq.setCell (Nat.le_refl _) _⟩
                  case measure => simp [intOf]; omega
          · rw [inB_f hin] at cS
            have HNR : Hid (¬ RightO k (l.take (i + 1))) := hid (fun c => by
              rw [HT.out] at c
              exact hin (rightO_snoc.1 c).2.1)
            generalize spO (pa l i) = sp at *
            generalize pa l i = ob at *
            obtain ⟨p, z⟩ := ob
            obtain ⟨sa, sz⟩ := sp
            simp only at c0 c1 cS
            clear h HR HO HT HA HAJ hin HPA HTM
            go_wp2_with (go_at_call 29; with_reducible refine cS.mono ?_; rintro e w2 ⟨rfl, hb2⟩; have hb2' := next hb hb2)
            go_ret2
            exact HFA.out _ (hb2'.alloc hb2'.size _) (i + 1) HNR.out
        · obtain rfl : i = n := by omega
          have HE : Hid (RightO k l) := hid (by have := HR.out; rwa [List.take_of_length_le (by omega)] at this)
          have HE2 : Hid (Own .i64 3 w.heap.size wr (some ⟨w.heap.size, 0, none⟩) k k (kzN k l)) := hid (by have := HO.out; rwa [List.take_of_length_le (by omega)] at this)
          clear HR HO h HFA
          go_wp2
          go_ret2
          exact ⟨some ⟨w.heap.size, 0, none⟩, k, k, by rw [(kz_t HE.out).2]; rfl, by rw [(kz_t HE.out).1]; exact HE2.out, hb⟩

theorem rkinds_ps (P : Int) (ao : Option Addr) (n cap : Nat) (l : List Spn) (w : World) (h : Ps w ao n cap l) (hn : n ≤ 9223372036854775807) :
    Calls Tryd.prog 11 #[.int .i64 P, .slice ao n cap] w fun e w' => ∃ bo m c, e = .returned (.tuple #[.slice bo m c, .bool (rtO P l)]) ∧ Own .i64 3 w.heap.size w' bo m c (kzL P l) ∧ Below w.heap.size w w' := by
  by_cases h0 : P < 0
  · obtain ⟨e1, e2⟩ := kz_f (P := P) (l := l) (fun c => by have := c.rng; omega)
    rw [e1, e2]
    clear e1 e2 h
    go_enter Tryd.func11, Tryd.ntmps11
    go_wp2
    go_ret2
    exact ⟨none, 0, 0, rfl, own_nil _ _ _ _, Below.refl _ _⟩
  · by_cases h1 : 64 < P
    · obtain ⟨e1, e2⟩ := kz_f (P := P) (l := l) (fun c => by have := c.rng; omega)
      rw [e1, e2]
      clear e1 e2 h
      go_enter Tryd.func11, Tryd.ntmps11
      go_wp2
      go_ret2
      exact ⟨none, 0, 0, rfl, own_nil _ _ _ _, Below.refl _ _⟩
    · obtain ⟨N, rfl⟩ : ∃ N : Nat, P = N := ⟨P.toNat, by omega⟩
      exact rkinds_in N (by omega) ao n cap l w h hn
end Go.Proofs.YtlghhhhgfnnjgaaDoor
