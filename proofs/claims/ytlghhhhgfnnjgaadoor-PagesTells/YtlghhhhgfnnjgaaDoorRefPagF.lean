/- joistref13.Place by its contract. -/
import Derived.Test.YtlghhhhgfnnjgaaDoorRefPagD
import Derived.Test.YtlghhhhgfnnjgaaDoorRefPagC
import Derived.Test.YtlghhhhgfnnjgaaDoorPlcN
namespace Go.Proofs.YtlghhhhgfnnjgaaDoor
set_option maxRecDepth 100000
open Go.RowKit
set_option linter.unusedVariables false
set_option linter.unusedSimpArgs false
set_option maxRecDepth 100000

set_option maxHeartbeats 2000000 in
theorem rplace_small (N : Nat) (ao : Option Addr) (n cap : Nat) (l : List Spn) (z : Int) (w : World) (h : Ps w ao n cap l) (hn : n ≤ 9223372036854775807) (hr : RightO N l) (hz : 1 ≤ z ∧ z ≤ 120) :
    Calls Tryd.prog 13 #[.int .i64 N, .slice ao n cap, .int .i64 z] w fun e w' => e = .returned (.tuple #[.int .i64 (pcN N l z), .bool (pcB N l z)]) ∧ Below w.heap.size w w' := by
  have hl := h.len
  have hN : N ≤ 64 := by have := hr.rng; omega
  have cK := rkinds_ps N ao n cap l w h (by omega)
  rw [(kz_t hr).1, (kz_t hr).2] at cK
  have cO := fun w' => rof_any z w'
  simp only [cl_b hz] at cO
  have hcc := clN_lt z
  have cCe := fun w' => rcells_any (clN z) w'
  simp only [wdE_in (c := (clN z : Int)) ⟨by omega, by omega⟩] at cCe
  obtain ⟨_, _, m1, m2, _, _⟩ := cls_in (c := (clN z : Int)) ⟨by omega, by omega⟩
  have HF1 : Hid (∀ x, lsX (32 * N) (Cd1 l (clN z)) = some x → pcN N l z = x ∧ pcB N l z = true) := hid (fun x hx => pc_first hr hz hx)
  have HF2 : Hid (lsX (32 * N) (Cd1 l (clN z)) = none → ∀ x, lsX (32 * N) (Cd2 l) = some x → pcN N l z = x ∧ pcB N l z = true) := hid (fun h1 x hx => pc_second hr hz h1 hx)
  have HF3 : Hid (lsX (32 * N) (Cd1 l (clN z)) = none → lsX (32 * N) (Cd2 l) = none → pcN N l z = 0 ∧ pcB N l z = false) := hid (fun h1 h2 => pc_nowhere hr hz h1 h2)
  have HKZ : Hid (∀ i, i < N → (kzN N l).getD i 0 = kdL l (i : Nat)) := hid (fun i hi => kzN_at (by omega) 0)
  have HKL : Hid ((kzN N l).length = N) := hid (by rw [kzN_len]; omega)
  clear hz hr
  generalize clN z = cc at *
  generalize pcN N l z = an at *
  generalize pcB N l z = ab at *
  obtain ⟨M, hM⟩ : ∃ M : Nat, ceN cc = M := ⟨(ceN cc).toNat, by omega⟩
  simp only [hM] at cCe
  have cCl := fun (k : Nat) w' => rcell_any cc k w'
  have HM := hid hM
  have HFO : Hid (∀ i k, i < N → k < M → kdL l (i : Nat) = cc → ocB l (cwN cc i k) = false → (∀ j, j < k → ocB l (cwN cc i j) = true) → (∀ y, y < 32 * i → Cd1 l cc y = false) → an = cwN cc i k ∧ ab = true) := hid (fun i k hi hk hd hf hp ha => by
    have hk' : (k : Int) < ceN cc := by rw [hM]; omega
    obtain ⟨e1, e2⟩ := HF1.out _ (cd1_found hcc hi hk' hd hf hp ha)
    exact ⟨by rw [e1]; have := (cwN_ok hcc hk' hi).1; omega, e2⟩)
  have HDN : Hid (∀ i, (∀ k, k < M → ocB l (cwN cc i k) = true) → (∀ y, y < 32 * i → Cd1 l cc y = false) → ∀ y, y < 32 * (i + 1) → Cd1 l cc y = false) := hid (fun i hk ha y hy => by
    by_cases hyi : y / 32 = i
    · exact cd1_done hcc (fun k hk' => hk k (by rw [hM] at hk'; omega)) hyi
    · exact ha y (by omega))
  have HOT : Hid (∀ i : Nat, kdL l (i : Nat) ≠ cc → (∀ y, y < 32 * i → Cd1 l cc y = false) → ∀ y, y < 32 * (i + 1) → Cd1 l cc y = false) := hid (fun i hk ha y hy => by
    by_cases hyi : y / 32 = i
    · exact cd1_other hk hyi
    · exact ha y (by omega))
  have HC1 : Hid (∀ k : Nat, k < M → 4 ≤ ctN cc k ∧ ctN cc k < 32) := hid (fun k hk => ctN_in ⟨by omega, by rw [hM]; omega⟩)
  have HC0 : Hid (ctN cc 0 = 4) := hid (ctN_0 ⟨by omega, by omega⟩).2
  rw [hM] at m1 m2
  clear hM HF1
  have hccI : (cc : Int) ≤ 5 := by omega
  go_enter Tryd.func13, Tryd.ntmps13
  go_wp2_with (first
    | (go_at_call 11; with_reducible refine cK.mono ?_; rintro e w1 ⟨bo, m, c, rfl, ho1, hb1⟩; have HO1 := hid ho1; clear ho1)
    | (go_at_call 32; with_reducible refine (cO _).mono ?_; rintro e w2 ⟨rfl, hb2⟩)
    | (go_at_call 34; with_reducible refine (cCe _).mono ?_; rintro e w3 ⟨rfl, hb3⟩))
  obtain rfl : m = N := by have := HO1.out.len; rw [HKL.out] at this; omega
  have hb30 := next hb2 hb3
  have HRW : Hid (∀ wq, Below w1.heap.size w1 wq → ∀ i, i < m → ∃ g, bo = some ⟨g, 0, none⟩ ∧ wq.cell? ⟨g, i, none⟩ = some (.int .i64 (kdL l (i : Nat)))) := hid (fun wq hq i hi => by
    have ho := HO1.out.below hq
    obtain ⟨g, c', e⟩ := own_shape ho.row (by omega)
    simp only [Value.slice.injEq] at e
    obtain ⟨rfl, _, rfl⟩ := e
    exact ⟨g, rfl, ho.at i hi (HKZ.out i hi)⟩)
  clear HO1 HKZ HKL hb2 hb3 cK cO cCe
  go_loopw [18] (fun s18 wq => ∃ i : Nat, i ≤ m ∧ s18 = .int .i64 i ∧ Hid (∀ y, y < 32 * i → Cd1 l cc y = false) ∧ Below w1.heap.size w1 wq) (fun s18 _ => m - (intOf s18).toNat)
  case atStart => exact ⟨0, Nat.zero_le _, rfl, hid (fun y h => absurd h (by omega)), hb30⟩
  case round =>
    clear hb30
    obtain ⟨i, hi, rfl, HI, hbq⟩ := hrel
    by_cases hlt : i < m
    · have hii : (i : Int) < (m : Int) := by omega
      have x1 : IntKind.i64.wrap (32 * (i : Int)) = 32 * (i : Int) := IntWalk.i64_in _ ⟨by omega, by omega⟩
      go_wp2
      go_loopw [19] (fun s19 wq => ∃ k : Nat, k ≤ M ∧ s19 = .int .i64 k ∧ Hid (∀ j, j < k → ocB l (cwN cc i j) = true) ∧ Below w1.heap.size w1 wq) (fun s19 _ => M - (intOf s19).toNat)
      case atStart => exact ⟨0, Nat.zero_le _, rfl, hid (fun j h => absurd h (by omega)), hbq⟩
      case round =>
        clear hbq
        obtain ⟨k, hk, rfl, HK, hbq⟩ := hrel
        by_cases hkM : k < M
        · have hkk : (k : Int) < (M : Int) := by omega
          obtain ⟨g, rfl, v0⟩ := HRW.out _ hbq i hlt
          obtain ⟨V, hV⟩ : ∃ V, kdL l (i : Nat) = V := ⟨_, rfl⟩
          rw [hV] at v0
          by_cases hvc : V = cc
          · have hvd : (V == (cc : Int)) = true := by simpa using hvc
            have HVC := hid (hV.trans hvc)
            obtain ⟨o1, o2⟩ := HC1.out k hkM
            have cX := fun w' => cCl k w'
            have cT := fun w' (hb' : Below w.heap.size w w') => rtaken_ps ao n cap l (32 * (i : Int) + ctN cc k) w' (h.below hb') hn
            have x2 : IntKind.i64.wrap (32 * (i : Int) + ctN cc k) = 32 * (i : Int) + ctN cc k := IntWalk.i64_in _ ⟨by omega, by omega⟩
            have HCW : Hid (cwN cc i k = 32 * (i : Int) + ctN cc k) := hid rfl
            by_cases hoc : ocB l (32 * (i : Int) + ctN cc k) = true
            · have HK2 : Hid (∀ j, j < k + 1 → ocB l (cwN cc i j) = true) := hid (fun j hj => by
                by_cases c : j < k
                · exact HK.out j c
                · obtain rfl : j = k := by omega
                  rw [HCW.out]; exact hoc)
              simp only [hoc] at cT
              clear hoc hvc hV HK HVC HFO HDN HOT HI HF2 HF3 HRW HCW h HC1 HC0 HM
              generalize ctN cc k = off at *
              generalize ctE cc k = er at *
              go_wp2_with (first
                | (go_at_call 35; with_reducible refine (cX _).mono ?_; rintro e w4 ⟨rfl, hb4⟩; have hb4a := next hbq hb4; have hb4b := next hb1 hb4a)
                | (go_at_call 36; with_reducible refine (cT _ hb4b).mono ?_; rintro e w' ⟨rfl, rfl⟩))
              go_roundw
              case rel => exact ⟨k + 1, by omega, by go_num, HK2, hb4a⟩
              case measure => simp [intOf]; omega
            · have hoc' : ocB l (32 * (i : Int) + ctN cc k) = false := by simpa using hoc
              have HA : Hid (an = 32 * (i : Int) + ctN cc k ∧ ab = true) := hid (by
                rw [← HCW.out]
                exact HFO.out i k hlt hkM HVC.out (by rw [HCW.out]; exact hoc') HK.out HI.out)
              simp only [hoc'] at cT
              clear hoc hoc' hvc hV HK HVC HFO HDN HOT HI HF2 HF3 HRW HCW h HC1 HC0 HM
              generalize ctN cc k = off at *
              generalize ctE cc k = er at *
              go_wp2_with (first
                | (go_at_call 35; with_reducible refine (cX _).mono ?_; rintro e w4 ⟨rfl, hb4⟩; have hb4a := next hbq hb4; have hb4b := next hb1 hb4a)
                | (go_at_call 36; with_reducible refine (cT _ hb4b).mono ?_; rintro e w' ⟨rfl, rfl⟩))
              go_ret2
              exact ⟨by rw [HA.out.1, HA.out.2]; rfl, hb4b⟩
          · have hvd : (V == (cc : Int)) = false := by simpa using hvc
            have HI2 : Hid (∀ y, y < 32 * (i + 1) → Cd1 l cc y = false) := hid (HOT.out i (by rw [hV]; exact hvc) HI.out)
            clear hvc hV HK HFO HDN HOT HI HF2 HF3 HRW h HC1 HC0 HM
            go_wp2
            go_roundw
            case rel => exact ⟨i + 1, by omega, by go_num, HI2, hbq⟩
            case measure => simp [intOf]; omega
        · have HI2 : Hid (∀ y, y < 32 * (i + 1) → Cd1 l cc y = false) := hid (HDN.out i (fun j hj => HK.out j (by omega)) HI.out)
          have hkk : ¬ ((k : Int) < (M : Int)) := by omega
          clear HK HFO HDN HOT HI HF2 HF3 HRW h HC1 HC0 HM
          go_wp2
          go_roundw
          case rel => exact ⟨i + 1, by omega, by go_num, HI2, hbq⟩
          case measure => simp [intOf]; omega
    · obtain rfl : i = m := by omega
      have HNO : Hid (lsX (32 * i) (Cd1 l cc) = none) := hid (lsX_none.2 HI.out)
      clear HI HFO HDN HOT HC1 HM cCl
      have cX := fun w' => rcell_any cc 0 w'
      simp only [HC0.out] at cX
      generalize ctE (cc : Int) 0 = er at *
      go_wp2
      go_loopw [23] (fun s23 wq => ∃ j : Nat, j ≤ i ∧ s23 = .int .i64 j ∧ Hid (∀ t, t < j → kdL l (t : Nat) ≠ -1) ∧ Below w1.heap.size w1 wq) (fun s23 _ => i - (intOf s23).toNat)
      case atStart => exact ⟨0, Nat.zero_le _, rfl, hid (fun t h => absurd h (by omega)), hbq⟩
      case round =>
        clear hbq
        obtain ⟨j, hj, rfl, HJ, hbq⟩ := hrel
        by_cases hji : j < i
        · have hjj : (j : Int) < (i : Int) := by omega
          have x1 : IntKind.i64.wrap (32 * (j : Int)) = 32 * (j : Int) := IntWalk.i64_in _ ⟨by omega, by omega⟩
          have x2 : IntKind.i64.wrap (32 * (j : Int) + 4) = 32 * (j : Int) + 4 := IntWalk.i64_in _ ⟨by omega, by omega⟩
          obtain ⟨g, rfl, v0⟩ := HRW.out _ hbq j hji
          obtain ⟨V, hV⟩ : ∃ V, kdL l (j : Nat) = V := ⟨_, rfl⟩
          rw [hV] at v0
          by_cases hv : V = -1
          · have HA : Hid (an = 32 * (j : Int) + 4 ∧ ab = true) := hid (by
              obtain ⟨e1, e2⟩ := HF2.out HNO.out _ (cd2_found hji (hV.trans hv) HJ.out)
              exact ⟨by rw [e1]; omega, e2⟩)
            have hvd : (V == -1) = true := by simpa using hv
            clear hv hV HJ HF2 HF3 HRW HNO h HC0
            go_wp2_with (go_at_call 35; with_reducible refine (cX _).mono ?_; rintro e w4 ⟨rfl, hb4⟩; have hb4b := next hb1 (next hbq hb4))
            go_ret2
            exact ⟨by rw [HA.out.1, HA.out.2]; rfl, hb4b⟩
          · have HJ2 : Hid (∀ t, t < j + 1 → kdL l (t : Nat) ≠ -1) := hid (fun t ht => by
              by_cases c : t < j
              · exact HJ.out t c
              · obtain rfl : t = j := by omega
                rw [hV]; exact hv)
            have hvd : (V == -1) = false := by simpa using hv
            clear hv hV HJ HF2 HF3 HRW HNO h HC0
            go_wp2
            go_roundw
            case rel => exact ⟨j + 1, by omega, by go_num, HJ2, hbq⟩
            case measure => simp [intOf]; omega
        · obtain rfl : j = i := by omega
          have HA : Hid (an = 0 ∧ ab = false) := hid (HF3.out HNO.out (cd2_none HJ.out))
          clear HJ HF2 HF3 HRW HNO h HC0
          go_wp2
          go_ret2
          exact ⟨by rw [HA.out.1, HA.out.2]; rfl, next hb1 hbq⟩

theorem rplace_ps (P : Int) (ao : Option Addr) (n cap : Nat) (l : List Spn) (z : Int) (w : World) (h : Ps w ao n cap l) (hn : n ≤ 9223372036854775807) :
    Calls Tryd.prog 13 #[.int .i64 P, .slice ao n cap, .int .i64 z] w fun e w' => e = .returned (.tuple #[.int .i64 (pcN P l z), .bool (pcB P l z)]) ∧ Below w.heap.size w w' := by
  by_cases hr : RightO P l
  · obtain ⟨P0, P1⟩ := hr.rng
    by_cases hz : 1 ≤ z ∧ z ≤ 120
    · obtain ⟨N, rfl⟩ : ∃ N : Nat, P = N := ⟨P.toNat, by omega⟩
      exact rplace_small N ao n cap l z w h hn hr hz
    · have cK := rkinds_ps P ao n cap l w h hn
      rw [(kz_t hr).1, (kz_t hr).2] at cK
      have HKL : Hid ((kzN P l).length ≤ 64) := hid (by rw [kzN_len]; omega)
      have cO := fun w' => rof_any z w'
      simp only [(cl_f hz).1, (cl_f hz).2] at cO
      have cP := fun w' => rpages_any z w'
      have cB := fun w' bo m c (hs : Sl .i64 w' bo m c (kzN P l)) (hm : m ≤ 1048576) => rbestK_sl bo m c (kzN P l) (pgN z) w' hs hm
      obtain ⟨b0, b1⟩ := btN_rg (P := P) (l := l) ⟨P0, P1⟩ (pgN z)
      by_cases hb : 120 < z ∧ z ≤ 2048
      · obtain ⟨e1, e2⟩ := pc_big hr hb
        rw [e1, e2]
        simp only [(pg_t hb).2] at cP
        clear e1 e2 h hr hz hb
        generalize btN (kzN P l) (pgN z) = at' at *
        generalize btB (kzN P l) (pgN z) = is at *
        generalize pgN z = need at *
        generalize kzN P l = ks at *
        have x1 : IntKind.i64.wrap (32 * at') = 32 * at' := IntWalk.i64_in _ ⟨by omega, by omega⟩
        go_enter Tryd.func13, Tryd.ntmps13
        go_wp2_with (first
          | (go_at_call 11; with_reducible refine cK.mono ?_; rintro e w1 ⟨bo, m, c, rfl, ho1, hb1⟩; have hs1 := ho1.sl; have hl1 := ho1.len; have hm1 := HKL.out; clear ho1)
          | (go_at_call 32; with_reducible refine (cO _).mono ?_; rintro e w2 ⟨rfl, hb2⟩; have hs2 := hs1.below hb2; have hb2a := next hb1 hb2)
          | (go_at_call 33; with_reducible refine (cP _).mono ?_; rintro e w' ⟨rfl, rfl⟩)
          | (go_at_call 19; with_reducible refine (cB _ bo m c hs2 (by omega)).mono ?_; rintro e w3 ⟨rfl, hb3⟩))
        all_goals (go_ret2; refine ⟨?_, next hb2a hb3⟩; cases is <;> simp_all)
      · obtain ⟨e1, e2⟩ := pc_f (pc_out (P := P) (l := l) (n := z) (by omega))
        rw [e1, e2]
        have hN : pgN z = 0 := (pg_f hb).1
        simp only [(pg_f hb).1, (pg_f hb).2] at cP
        simp only [hN, (bt_f (bt_small (ks := kzN P l) (n := 0) (by omega))).1, (bt_f (bt_small (ks := kzN P l) (n := 0) (by omega))).2] at cB
        clear e1 e2 h hr hz hb hN b0 b1
        generalize kzN P l = ks at *
        go_enter Tryd.func13, Tryd.ntmps13
        go_wp2_with (first
          | (go_at_call 11; with_reducible refine cK.mono ?_; rintro e w1 ⟨bo, m, c, rfl, ho1, hb1⟩; have hs1 := ho1.sl; have hl1 := ho1.len; have hm1 := HKL.out; clear ho1)
          | (go_at_call 32; with_reducible refine (cO _).mono ?_; rintro e w2 ⟨rfl, hb2⟩; have hs2 := hs1.below hb2; have hb2a := next hb1 hb2)
          | (go_at_call 33; with_reducible refine (cP _).mono ?_; rintro e w' ⟨rfl, rfl⟩)
          | (go_at_call 19; with_reducible refine (cB _ bo m c hs2 (by omega)).mono ?_; rintro e w3 ⟨rfl, hb3⟩))
        go_ret2
        exact ⟨rfl, next hb2a hb3⟩
  · obtain ⟨e1, e2⟩ := pc_f (pc_wrong (n := z) hr)
    rw [e1, e2]
    have cK := rkinds_ps P ao n cap l w h hn
    rw [(kz_f hr).2] at cK
    clear h hr e1 e2
    go_enter Tryd.func13, Tryd.ntmps13
    go_wp2_with (go_at_call 11; with_reducible refine cK.mono ?_; rintro e w1 ⟨bo, m, c, rfl, ho1, hb1⟩; clear ho1)
    go_ret2
    exact ⟨rfl, hb1⟩
end Go.Proofs.YtlghhhhgfnnjgaaDoor
