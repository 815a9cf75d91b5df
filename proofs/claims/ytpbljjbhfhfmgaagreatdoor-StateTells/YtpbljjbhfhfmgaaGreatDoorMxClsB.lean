/- ClsB: these texts, one behind another. -/
import Derived.Test.YtpbljjbhfhfmgaaGreatDoorMxOff
import Derived.Test.YtpbljjbhfhfmgaaGreatDoorMxHandM
import Derived.Test.YtpbljjbhfhfmgaaGreatDoorMxLent
import Derived.WalkKit
import Derived.LoopTactic
import Derived.Deep.RegionHeld3
import Derived.Laws.AppendOwnNone
/- The document's classes of cells (joistref12) by their contracts. -/
namespace Go.Proofs.YtpbljjbhfhfmgaaGreatDoor
set_option maxRecDepth 100000
open Go.RowKit
set_option linter.unusedVariables false
set_option linter.unusedSimpArgs false
set_option maxRecDepth 100000

/-- The sizes stand in a block. -/
structure Sz (w : World) (b : Nat) : Prop where
  lt : b < w.heap.size
  spot : ∀ i, i < 6 → w.cell? ⟨b, i, none⟩ = some (.int .i64 (szL.getD i 0))
theorem Sz.below {w w' : World} {b : Nat} (h : Sz w b) (hb : Below w.heap.size w w') : Sz w' b :=
  ⟨Nat.lt_of_lt_of_le h.lt hb.size, fun i hi => by rw [World.cell?_of_block (a := ⟨b, i, none⟩) (hb.block b h.lt)]; exact h.spot i hi⟩
theorem Sz.c0 {w : World} {b : Nat} (h : Sz w b) : w.cell? ⟨b, 0, none⟩ = some (.int .i64 2) := h.spot 0 (by omega)
theorem Sz.c1 {w : World} {b : Nat} (h : Sz w b) : w.cell? ⟨b, 1, none⟩ = some (.int .i64 3) := h.spot 1 (by omega)
theorem Sz.c2 {w : World} {b : Nat} (h : Sz w b) : w.cell? ⟨b, 2, none⟩ = some (.int .i64 5) := h.spot 2 (by omega)
theorem Sz.c3 {w : World} {b : Nat} (h : Sz w b) : w.cell? ⟨b, 3, none⟩ = some (.int .i64 7) := h.spot 3 (by omega)
theorem Sz.c4 {w : World} {b : Nat} (h : Sz w b) : w.cell? ⟨b, 4, none⟩ = some (.int .i64 10) := h.spot 4 (by omega)
theorem Sz.c5 {w : World} {b : Nat} (h : Sz w b) : w.cell? ⟨b, 5, none⟩ = some (.int .i64 15) := h.spot 5 (by omega)
theorem sz_new (w : World) : Sz (w.alloc (.cells #[.int .i64 2, .int .i64 3, .int .i64 5, .int .i64 7, .int .i64 10, .int .i64 15] 3)) w.heap.size := by
  refine ⟨by simp, fun i hi => ?_⟩
  rw [cell_of_row _ w.heap.size i #[.int .i64 2, .int .i64 3, .int .i64 5, .int .i64 7, .int .i64 10, .int .i64 15] 3 (0, 0) (heap_alloc_new w _)]
  rcases (show i = 0 ∨ i = 1 ∨ i = 2 ∨ i = 3 ∨ i = 4 ∨ i = 5 by omega) with rfl | rfl | rfl | rfl | rfl | rfl <;> rfl
theorem szL_le {k : Nat} (hk : k < 6) : 2 ≤ szL.getD k 0 ∧ szL.getD k 0 ≤ 15 := by
  rcases (show k = 0 ∨ k = 1 ∨ k = 2 ∨ k = 3 ∨ k = 4 ∨ k = 5 by omega) with rfl | rfl | rfl | rfl | rfl | rfl <;> decide

theorem sizes_any (w : World) :
    Calls Tryz.prog 121 #[] w fun e w' => e = .returned (.slice (some ⟨w.heap.size, 0, none⟩) 6 6) ∧ Sz w' w.heap.size ∧ Below w.heap.size w w' := by
  have HS := hid (sz_new w)
  have hbA : Hid (Below w.heap.size w (w.alloc (.cells #[.int .i64 2, .int .i64 3, .int .i64 5, .int .i64 7, .int .i64 10, .int .i64 15] 3))) := hid ((Below.refl _ _).alloc (Nat.le_refl _) _)
  go_enter Tryz.func121, Tryz.ntmps121
  go_wp2
  go_ret
  exact ⟨rfl, HS.out, hbA.out⟩

theorem rof_any (n : Int) (w : World) :
    Calls Tryz.prog 108 #[.int .i64 n] w fun e w' => e = .returned (.tuple #[.int .i64 (clN n), .bool (clB n)]) ∧ Below w.heap.size w w' := by
  by_cases h1 : n < 1
  · obtain ⟨e1, e2⟩ := cl_f (n := n) (by omega)
    rw [e1, e2]
    clear e1 e2
    go_enter Tryz.func108, Tryz.ntmps108
    go_wp2_with (go_at_call 121; with_reducible refine (sizes_any _).mono ?_; rintro e w1 ⟨rfl, hs, hb1⟩)
    go_loopw [5] (fun i wr => ∃ k : Nat, k ≤ 6 ∧ i = .int .i64 k ∧ Below w.heap.size w wr) (fun i _ => 6 - (intOf i).toNat)
    case atStart => exact ⟨0, Nat.zero_le _, rfl, hb1⟩
    case round =>
      clear hs hb1
      obtain ⟨k, hk, rfl, hb⟩ := hrel
      by_cases hlt : k < 6
      · have hki : (k : Int) < 6 := by omega
        go_wp2
        go_roundw
        case rel => exact ⟨k + 1, by omega, by go_num, hb⟩
        case measure => simp [intOf]; omega
      · obtain rfl : k = 6 := by omega
        go_wp2
        go_ret2
        exact ⟨rfl, hb⟩
  · have h1' : 1 ≤ n := by omega
    go_enter Tryz.func108, Tryz.ntmps108
    go_wp2_with (go_at_call 121; with_reducible refine (sizes_any _).mono ?_; rintro e w1 ⟨rfl, hs, hb1⟩)
    go_loopw [5] (fun i wr => ∃ k : Nat, k ≤ 6 ∧ i = .int .i64 k ∧ Hid (∀ i, i < k → ¬ n ≤ 8 * szL.getD i 0) ∧ Hid (Sz wr w.heap.size) ∧ Below w.heap.size w wr) (fun i _ => 6 - (intOf i).toNat)
    case atStart => exact ⟨0, Nat.zero_le _, rfl, hid (fun i h => absurd h (by omega)), hid hs, hb1⟩
    case round =>
      clear hs hb1
      obtain ⟨k, hk, rfl, HN, HS, hb⟩ := hrel
      by_cases hlt : k < 6
      · have c0 := HS.out.spot k hlt
        have hki : (k : Int) < 6 := by omega
        obtain ⟨m0, m1⟩ := szL_le hlt
        by_cases hs : n ≤ 8 * szL.getD k 0
        · have HY : Hid ((clN n : Int) = k ∧ clB n = true) := hid (by
            obtain ⟨a, b⟩ := clN_at hlt h1' hs HN.out
            exact ⟨by rw [a], b⟩)
          generalize szL.getD k 0 = m at *
          have x1 : IntKind.i64.wrap (8 * m) = 8 * m := IntWalk.i64_in _ ⟨by omega, by omega⟩
          clear HN
          go_wp2
          go_ret2
          exact ⟨by rw [HY.out.1, HY.out.2]; rfl, hb⟩
        · have HM : Hid (∀ i, i < k + 1 → ¬ n ≤ 8 * szL.getD i 0) := hid (fun i hi => by
            by_cases c : i < k
            · exact HN.out i c
            · obtain rfl : i = k := by omega
              exact hs)
          generalize szL.getD k 0 = m at *
          have x1 : IntKind.i64.wrap (8 * m) = 8 * m := IntWalk.i64_in _ ⟨by omega, by omega⟩
          clear HN
          go_wp2
          go_roundw
          case rel => exact ⟨k + 1, by omega, by go_num, HM, HS, hb⟩
          case measure => simp [intOf]; omega
      · obtain rfl : k = 6 := by omega
        have HO : Hid (clN n = 0 ∧ clB n = false) := hid (cl_out HN.out)
        clear HN HS
        go_wp2
        go_ret2
        exact ⟨by rw [HO.out.1, HO.out.2]; rfl, hb⟩

theorem rwords_any (c : Int) (w : World) :
    Calls Tryz.prog 130 #[.int .i64 c] w fun e w' => e = .returned (.tuple #[.int .i64 (wdN c), .int .i64 (wdE c)]) ∧ Below w.heap.size w w' := by
  rcases cls_cases c with (rfl | rfl | rfl | rfl | rfl | rfl) | h
  · rw [show wdN 0 = 2 by decide, show wdE 0 = 0 by decide]
    go_enter Tryz.func130, Tryz.ntmps130
    go_wp2_with (go_at_call 121; with_reducible refine (sizes_any _).mono ?_; rintro e w1 ⟨rfl, hs, hb1⟩; have c0 := hs.c0; clear hs)
    go_ret2
    exact ⟨rfl, hb1⟩
  · rw [show wdN 1 = 3 by decide, show wdE 1 = 0 by decide]
    go_enter Tryz.func130, Tryz.ntmps130
    go_wp2_with (go_at_call 121; with_reducible refine (sizes_any _).mono ?_; rintro e w1 ⟨rfl, hs, hb1⟩; have c0 := hs.c1; clear hs)
    go_ret2
    exact ⟨rfl, hb1⟩
  · rw [show wdN 2 = 5 by decide, show wdE 2 = 0 by decide]
    go_enter Tryz.func130, Tryz.ntmps130
    go_wp2_with (go_at_call 121; with_reducible refine (sizes_any _).mono ?_; rintro e w1 ⟨rfl, hs, hb1⟩; have c0 := hs.c2; clear hs)
    go_ret2
    exact ⟨rfl, hb1⟩
  · rw [show wdN 3 = 7 by decide, show wdE 3 = 0 by decide]
    go_enter Tryz.func130, Tryz.ntmps130
    go_wp2_with (go_at_call 121; with_reducible refine (sizes_any _).mono ?_; rintro e w1 ⟨rfl, hs, hb1⟩; have c0 := hs.c3; clear hs)
    go_ret2
    exact ⟨rfl, hb1⟩
  · rw [show wdN 4 = 10 by decide, show wdE 4 = 0 by decide]
    go_enter Tryz.func130, Tryz.ntmps130
    go_wp2_with (go_at_call 121; with_reducible refine (sizes_any _).mono ?_; rintro e w1 ⟨rfl, hs, hb1⟩; have c0 := hs.c4; clear hs)
    go_ret2
    exact ⟨rfl, hb1⟩
  · rw [show wdN 5 = 15 by decide, show wdE 5 = 0 by decide]
    go_enter Tryz.func130, Tryz.ntmps130
    go_wp2_with (go_at_call 121; with_reducible refine (sizes_any _).mono ?_; rintro e w1 ⟨rfl, hs, hb1⟩; have c0 := hs.c5; clear hs)
    go_ret2
    exact ⟨rfl, hb1⟩
  · rw [wdN_out h, wdE_out h]
    by_cases h1 : c < 0
    · clear h
      go_enter Tryz.func130, Tryz.ntmps130
      go_wp2_with (go_at_call 121; with_reducible refine (sizes_any _).mono ?_; rintro e w1 ⟨rfl, hs, hb1⟩; clear hs)
      go_ret2
      exact ⟨rfl, hb1⟩
    · have h2 : 6 ≤ c := by omega
      clear h
      go_enter Tryz.func130, Tryz.ntmps130
      go_wp2_with (go_at_call 121; with_reducible refine (sizes_any _).mono ?_; rintro e w1 ⟨rfl, hs, hb1⟩; clear hs)
      go_ret2
      exact ⟨rfl, hb1⟩

theorem rcells_any (c : Int) (w : World) :
    Calls Tryz.prog 122 #[.int .i64 c] w fun e w' => e = .returned (.tuple #[.int .i64 (ceN c), .int .i64 (wdE c)]) ∧ Below w.heap.size w w' := by
  have cW := rwords_any c w
  rcases cls_cases c with (rfl | rfl | rfl | rfl | rfl | rfl) | h
  · rw [show wdN 0 = 2 by decide, show wdE 0 = 0 by decide] at cW
    rw [show ceN 0 = 14 by decide, show wdE 0 = 0 by decide]
    go_enter Tryz.func122, Tryz.ntmps122
    go_wp2_with (go_at_call 130; with_reducible refine cW.mono ?_; rintro e w1 ⟨rfl, hb1⟩)
    go_ret2
    exact ⟨rfl, hb1⟩
  · rw [show wdN 1 = 3 by decide, show wdE 1 = 0 by decide] at cW
    rw [show ceN 1 = 9 by decide, show wdE 1 = 0 by decide]
    go_enter Tryz.func122, Tryz.ntmps122
    go_wp2_with (go_at_call 130; with_reducible refine cW.mono ?_; rintro e w1 ⟨rfl, hb1⟩)
    go_ret2
    exact ⟨rfl, hb1⟩
  · rw [show wdN 2 = 5 by decide, show wdE 2 = 0 by decide] at cW
    rw [show ceN 2 = 5 by decide, show wdE 2 = 0 by decide]
    go_enter Tryz.func122, Tryz.ntmps122
    go_wp2_with (go_at_call 130; with_reducible refine cW.mono ?_; rintro e w1 ⟨rfl, hb1⟩)
    go_ret2
    exact ⟨rfl, hb1⟩
  · rw [show wdN 3 = 7 by decide, show wdE 3 = 0 by decide] at cW
    rw [show ceN 3 = 4 by decide, show wdE 3 = 0 by decide]
    go_enter Tryz.func122, Tryz.ntmps122
    go_wp2_with (go_at_call 130; with_reducible refine cW.mono ?_; rintro e w1 ⟨rfl, hb1⟩)
    go_ret2
    exact ⟨rfl, hb1⟩
  · rw [show wdN 4 = 10 by decide, show wdE 4 = 0 by decide] at cW
    rw [show ceN 4 = 2 by decide, show wdE 4 = 0 by decide]
    go_enter Tryz.func122, Tryz.ntmps122
    go_wp2_with (go_at_call 130; with_reducible refine cW.mono ?_; rintro e w1 ⟨rfl, hb1⟩)
    go_ret2
    exact ⟨rfl, hb1⟩
  · rw [show wdN 5 = 15 by decide, show wdE 5 = 0 by decide] at cW
    rw [show ceN 5 = 1 by decide, show wdE 5 = 0 by decide]
    go_enter Tryz.func122, Tryz.ntmps122
    go_wp2_with (go_at_call 130; with_reducible refine cW.mono ?_; rintro e w1 ⟨rfl, hb1⟩)
    go_ret2
    exact ⟨rfl, hb1⟩
  · rw [wdN_out h, wdE_out h] at cW
    rw [ceN_out h, wdE_out h]
    clear h
    go_enter Tryz.func122, Tryz.ntmps122
    go_wp2_with (go_at_call 130; with_reducible refine cW.mono ?_; rintro e w1 ⟨rfl, hb1⟩)
    go_ret2
    exact ⟨rfl, hb1⟩

theorem rpages_any (n : Int) (w : World) :
    Calls Tryz.prog 107 #[.int .i64 n] w fun e w' => e = .returned (.tuple #[.int .i64 (pgN n), .int .i64 (pgE n)]) ∧ w = w' := by
  by_cases h : 120 < n ∧ n ≤ 2048
  · rw [(pg_t h).1, (pg_t h).2]
    obtain ⟨h1, h2⟩ := h
    have w1 : IntKind.i64.wrap (n + 256) = n + 256 := IntWalk.i64_in _ ⟨by omega, by omega⟩
    have w2 : IntKind.i64.wrap (n + 256 - 1) = n + 255 := by rw [IntWalk.i64_in _ ⟨by omega, by omega⟩]; omega
    have w3 : Int.tdiv (n + 255) 256 = (n + 255) / 256 := Int.tdiv_eq_ediv_of_nonneg (by omega)
    have w4 : IntKind.i64.wrap ((n + 255) / 256) = (n + 255) / 256 := IntWalk.i64_in _ ⟨by omega, by omega⟩
    go_enter Tryz.func107, Tryz.ntmps107
    go_wp2
    go_ret2
    exact ⟨rfl, rfl⟩
  · rw [(pg_f h).1, (pg_f h).2]
    by_cases h1 : n ≤ 120
    · clear h
      go_enter Tryz.func107, Tryz.ntmps107
      go_wp2
      go_ret2
      exact ⟨rfl, rfl⟩
    · have h2 : 2048 < n := by omega
      clear h
      go_enter Tryz.func107, Tryz.ntmps107
      go_wp2
      go_ret2
      exact ⟨rfl, rfl⟩

theorem rcell_any (c k : Int) (w : World) :
    Calls Tryz.prog 123 #[.int .i64 c, .int .i64 k] w fun e w' => e = .returned (.tuple #[.int .i64 (ctN c k), .int .i64 (ctE c k)]) ∧ Below w.heap.size w w' := by
  have cC := rcells_any c w
  have cW := fun w' => rwords_any c w'
  by_cases hk : CtOk c k
  · rw [(ct_t hk).1, (ct_t hk).2]
    have hc := hk.cls
    rw [wdE_in hc] at cC cW
    obtain ⟨v1, v2, m1, m2, f1, f2⟩ := cls_in hc
    have q0 : 0 ≤ wdN c * k := Int.mul_nonneg (by omega) hk.1
    have q1 := Int.mul_le_mul_of_nonneg_left (show k + 1 ≤ ceN c from hk.2) (show 0 ≤ wdN c by omega)
    rw [Int.mul_add, Int.mul_one] at q1
    rw [Int.mul_comm k]
    have x1 : IntKind.i64.wrap (wdN c * k) = wdN c * k := IntWalk.i64_in _ ⟨by omega, by omega⟩
    have x2 : IntKind.i64.wrap (4 + wdN c * k) = 4 + wdN c * k := IntWalk.i64_in _ ⟨by omega, by omega⟩
    obtain ⟨h1, h2⟩ := hk
    clear q0 q1 f1 f2 v1 v2 m1 m2 hc
    generalize ceN c = m at *
    generalize wdN c = v at *
    go_enter Tryz.func123, Tryz.ntmps123
    go_wp2_with (first
      | (go_at_call 122; with_reducible refine cC.mono ?_; rintro e w1 ⟨rfl, hb1⟩)
      | (go_at_call 130; with_reducible refine (cW _).mono ?_; rintro e w2 ⟨rfl, hb2⟩))
    go_ret2
    exact ⟨rfl, next hb1 hb2⟩
  · rw [(ct_f hk).1, (ct_f hk).2]
    clear cW
    by_cases hc : 0 ≤ c ∧ c < 6
    · rw [wdE_in hc] at cC
      by_cases h1 : k < 0
      · clear hc hk
        generalize ceN c = m at *
        go_enter Tryz.func123, Tryz.ntmps123
        go_wp2_with (go_at_call 122; with_reducible refine cC.mono ?_; rintro e w1 ⟨rfl, hb1⟩)
        go_ret2
        exact ⟨rfl, hb1⟩
      · have h2 : ceN c ≤ k := by unfold CtOk at hk; omega
        clear hc hk
        generalize ceN c = m at *
        go_enter Tryz.func123, Tryz.ntmps123
        go_wp2_with (go_at_call 122; with_reducible refine cC.mono ?_; rintro e w1 ⟨rfl, hb1⟩)
        go_ret2
        exact ⟨rfl, hb1⟩
    · rw [wdE_out hc] at cC
      clear hc hk
      generalize ceN c = m at *
      go_enter Tryz.func123, Tryz.ntmps123
      go_wp2_with (go_at_call 122; with_reducible refine cC.mono ?_; rintro e w1 ⟨rfl, hb1⟩)
      go_ret2
      exact ⟨rfl, hb1⟩

theorem rwhich_any (c o : Int) (w : World) :
    Calls Tryz.prog 109 #[.int .i64 c, .int .i64 o] w fun e w' => e = .returned (.tuple #[.int .i64 (whN c o), .bool (whB c o)]) ∧ Below w.heap.size w w' := by
  have cC := rcells_any c w
  obtain ⟨M, hM, hM2⟩ : ∃ M : Nat, ceN c = M ∧ M ≤ 14 := by
    by_cases hc : 0 ≤ c ∧ c < 6
    · obtain ⟨_, _, m1, m2, _, _⟩ := cls_in hc
      exact ⟨(ceN c).toNat, by omega, by omega⟩
    · exact ⟨0, ceN_out hc, by omega⟩
  have cT := fun (k : Nat) w' => rcell_any c k w'
  have yes : Hid (∀ k : Nat, k < M → ctN c k = o → whN c o = k ∧ whB c o = true) := hid (fun k hk h => by
    obtain ⟨a, b⟩ := wh_ct (c := c) (k := (k : Int)) ⟨by omega, by omega⟩
    rw [h] at a b
    exact ⟨b, (wh_t a).2⟩)
  have no : Hid ((∀ k : Nat, k < M → ¬ ctN c k = o) → whN c o = 0 ∧ whB c o = false) := hid (fun h => by
    refine wh_f (fun hw => ?_)
    obtain ⟨a, b⟩ := ct_wh hw
    obtain ⟨a1, a2⟩ := a
    have e : ((whN c o).toNat : Int) = whN c o := Int.toNat_of_nonneg a1
    exact h (whN c o).toNat (by omega) (by rw [e]; exact b))
  have okE : Hid (∀ k : Nat, k < M → ctE c k = 0) := hid (fun k hk => (ct_t (c := c) (k := (k : Int)) ⟨by omega, by omega⟩).2)
  rw [hM] at cC
  clear hM
  generalize wdE c = g at *
  go_enter Tryz.func109, Tryz.ntmps109
  go_wp2_with (go_at_call 122; with_reducible refine cC.mono ?_; rintro e w1 ⟨rfl, hb1⟩)
  go_loopw [8] (fun i wr => ∃ k : Nat, k ≤ M ∧ i = .int .i64 k ∧ Hid (∀ i, i < k → ¬ ctN c (i : Nat) = o) ∧ Below w.heap.size w wr) (fun i _ => M - (intOf i).toNat)
  case atStart => exact ⟨0, Nat.zero_le _, rfl, hid (fun i h => absurd h (by omega)), hb1⟩
  case round =>
    clear hb1 cC
    obtain ⟨k, hk, rfl, HN, hb⟩ := hrel
    by_cases hlt : k < M
    · have cK := fun w' => cT k w'
      have hki : (k : Int) < M := by omega
      by_cases hs : ctN c k = o
      · have HY : Hid (whN c o = k ∧ whB c o = true) := hid (yes.out k hlt hs)
        rw [hs] at cK
        clear yes no okE HN cT hs
        generalize ctE c k = h at *
        go_wp2_with (go_at_call 123; with_reducible refine (cK _).mono ?_; rintro e w2 ⟨rfl, hb2⟩)
        go_ret2
        exact ⟨by rw [HY.out.1, HY.out.2]; rfl, next hb hb2⟩
      · have HM : Hid (∀ i, i < k + 1 → ¬ ctN c (i : Nat) = o) := hid (fun i hi => by
          by_cases c : i < k
          · exact HN.out i c
          · obtain rfl : i = k := by omega
            exact hs)
        have hs' : (ctN c k == o) = false := by simpa using hs
        clear yes no okE HN cT
        generalize ctE c k = h at *
        generalize ctN c k = a at *
        go_wp2_with (go_at_call 123; with_reducible refine (cK _).mono ?_; rintro e w2 ⟨rfl, hb2⟩)
        go_roundw
        case rel => exact ⟨k + 1, by omega, by go_num, HM, next hb hb2⟩
        case measure => simp [intOf]; omega
    · obtain rfl : k = M := by omega
      have HO : Hid (whN c o = 0 ∧ whB c o = false) := hid (no.out HN.out)
      clear yes no okE HN cT
      go_wp2
      go_ret2
      exact ⟨by rw [HO.out.1, HO.out.2]; rfl, hb⟩
end Go.Proofs.YtpbljjbhfhfmgaaGreatDoor
