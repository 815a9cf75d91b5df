/- NtP · RefShp · ShcA · ShcB · ShcC · RefShq · ShpCode: these texts, one behind another. -/
import Derived.Test.YtpbljjbhfhfmgaaGreatDoorMxHandM
import Derived.Test.YtpbljjbhfhfmgaaGreatDoorMxLent
import Derived.BigQuiet
import Derived.Laws.ResultCell
import Derived.Lib.OthersKept
import Derived.WalkKit
import Derived.LoopTactic
/- joistref14.Nodes, tree.wide, Nodes by their contracts. -/
namespace Go.Proofs.YtpbljjbhfhfmgaaGreatDoor
set_option maxRecDepth 100000
open Go.RowKit
set_option linter.unusedVariables false
set_option linter.unusedSimpArgs false
set_option maxRecDepth 100000

theorem rnodes_any (n : Int) (hn : n ≤ 9223372036854775807) (w : World) :
    Calls Tryz.prog 110 #[.int .i64 n] w fun e w' => e = .returned (.int .i64 (ntN n)) ∧ w = w' := by
  by_cases h0 : n < 0
  · rw [nt_neg h0]
    go_enter Tryz.func110, Tryz.ntmps110
    go_wp2
    go_ret
    exact ⟨rfl, rfl⟩
  · obtain ⟨N, rfl⟩ : ∃ N : Nat, n = N := ⟨n.toNat, by omega⟩
    rw [nt_nat]
    have hb := ndS_two (abv N) (abv N) (Nat.le_refl _)
    have hA : abv N ≤ 1317624576693539402 := by unfold abv; omega
    have x1 : Int.tdiv (N : Int) 7 = (N : Int) / 7 := Int.tdiv_eq_ediv_of_nonneg (by omega)
    have x2 : IntKind.i64.wrap ((N : Int) / 7) = (N : Int) / 7 := IntWalk.i64_in _ ⟨by omega, by omega⟩
    have x3 : Int.tmod (N : Int) 7 = (N : Int) % 7 := Int.tmod_eq_emod_of_nonneg (by omega)
    by_cases hN0 : N = 0
    · subst hN0
      have e : ndS (abv 0) = 1 := by rw [show abv 0 = 1 by decide, ndS_le (by omega)]
      rw [e]
      clear x1 x2 x3
      go_enter Tryz.func110, Tryz.ntmps110
      go_wp2
      go_loopw [0, 3] (fun s0 s3 wr => s0 = .int .i64 1 ∧ s3 = .int .i64 1 ∧ w = wr) (fun s0 _ _ => 0)
      case atStart => exact ⟨rfl, rfl, rfl⟩
      case round =>
        obtain ⟨rfl, rfl, rfl⟩ := hrel
        go_wp2
        go_ret
        exact ⟨rfl, rfl⟩
    · have hA1 := abv_pos N
      have hAn : ¬ ((abv N : Nat) : Int) < 1 := by omega
      by_cases hm : 1 < (N : Int) % 7
      · have x4 : IntKind.i64.wrap ((N : Int) / 7 + 1) = (abv N : Nat) := by rw [IntWalk.i64_in _ ⟨by omega, by omega⟩]; unfold abv; omega
        go_enter Tryz.func110, Tryz.ntmps110
        go_wp2
        go_loopw [0, 3] (fun s0 s3 wr => ∃ (m t : Nat), s0 = .int .i64 m ∧ s3 = .int .i64 t ∧ 1 ≤ m ∧ Hid (t + ndS m = ndS (abv N) + m) ∧ m ≤ abv N ∧ w = wr) (fun s0 _ _ => (intOf s0).toNat)
        case atStart => exact ⟨_, _, rfl, rfl, hA1, hid (by omega), by omega, rfl⟩
        case round =>
          obtain ⟨m, t, rfl, rfl, hm1, HT, hmA, rfl⟩ := hrel
          by_cases hm : m ≤ 1
          · have HE : Hid (t = ndS (abv N)) := hid (by have := HT.out; rw [ndS_le hm] at this; omega)
            have hmi : ¬ (1 < (m : Int)) := by omega
            clear HT
            go_wp2
            go_ret
            exact ⟨congrArg (fun x : Nat => Ending.returned (.int .i64 (x : Int))) HE.out, rfl⟩
          · have hmi : 1 < (m : Int) := by omega
            have hlt := abv_lt hm
            have hp := abv_pos m
            have HT2 : Hid (t + abv m + ndS (abv m) = ndS (abv N) + abv m) := hid (by have := HT.out; rw [ndS_gt hm] at this; omega)
            have y1 : Int.tdiv (m : Int) 7 = (m : Int) / 7 := Int.tdiv_eq_ediv_of_nonneg (by omega)
            have y2 : IntKind.i64.wrap ((m : Int) / 7) = (m : Int) / 7 := IntWalk.i64_in _ ⟨by omega, by omega⟩
            have y3 : Int.tmod (m : Int) 7 = (m : Int) % 7 := Int.tmod_eq_emod_of_nonneg (by omega)
            have y5 : IntKind.i64.wrap ((t : Int) + (abv m : Nat)) = ((t + abv m : Nat) : Int) := by
              have h1 := HT2.out
              rw [IntWalk.i64_in _ ⟨by omega, by omega⟩]; omega
            by_cases hmm : 1 < (m : Int) % 7
            · have y4 : IntKind.i64.wrap ((m : Int) / 7 + 1) = (abv m : Nat) := by rw [IntWalk.i64_in _ ⟨by omega, by omega⟩]; unfold abv; omega
              clear HT hb hA
              generalize abv m = am at *
              go_wp2
              go_roundw
              case rel => exact ⟨am, t + am, rfl, rfl, hp, HT2, by omega, trivial⟩
              case measure => simp [intOf]; omega
            · have y4 : IntKind.i64.wrap ((m : Int) / 7 + (m : Int) % 7) = (abv m : Nat) := by rw [IntWalk.i64_in _ ⟨by omega, by omega⟩]; unfold abv; omega
              clear HT hb hA
              generalize abv m = am at *
              go_wp2
              go_roundw
              case rel => exact ⟨am, t + am, rfl, rfl, hp, HT2, by omega, trivial⟩
              case measure => simp [intOf]; omega
      · have x4 : IntKind.i64.wrap ((N : Int) / 7 + (N : Int) % 7) = (abv N : Nat) := by rw [IntWalk.i64_in _ ⟨by omega, by omega⟩]; unfold abv; omega
        go_enter Tryz.func110, Tryz.ntmps110
        go_wp2
        go_loopw [0, 3] (fun s0 s3 wr => ∃ (m t : Nat), s0 = .int .i64 m ∧ s3 = .int .i64 t ∧ 1 ≤ m ∧ Hid (t + ndS m = ndS (abv N) + m) ∧ m ≤ abv N ∧ w = wr) (fun s0 _ _ => (intOf s0).toNat)
        case atStart => exact ⟨_, _, rfl, rfl, hA1, hid (by omega), by omega, rfl⟩
        case round =>
          obtain ⟨m, t, rfl, rfl, hm1, HT, hmA, rfl⟩ := hrel
          by_cases hm : m ≤ 1
          · have HE : Hid (t = ndS (abv N)) := hid (by have := HT.out; rw [ndS_le hm] at this; omega)
            have hmi : ¬ (1 < (m : Int)) := by omega
            clear HT
            go_wp2
            go_ret
            exact ⟨congrArg (fun x : Nat => Ending.returned (.int .i64 (x : Int))) HE.out, rfl⟩
          · have hmi : 1 < (m : Int) := by omega
            have hlt := abv_lt hm
            have hp := abv_pos m
            have HT2 : Hid (t + abv m + ndS (abv m) = ndS (abv N) + abv m) := hid (by have := HT.out; rw [ndS_gt hm] at this; omega)
            have y1 : Int.tdiv (m : Int) 7 = (m : Int) / 7 := Int.tdiv_eq_ediv_of_nonneg (by omega)
            have y2 : IntKind.i64.wrap ((m : Int) / 7) = (m : Int) / 7 := IntWalk.i64_in _ ⟨by omega, by omega⟩
            have y3 : Int.tmod (m : Int) 7 = (m : Int) % 7 := Int.tmod_eq_emod_of_nonneg (by omega)
            have y5 : IntKind.i64.wrap ((t : Int) + (abv m : Nat)) = ((t + abv m : Nat) : Int) := by
              have h1 := HT2.out
              rw [IntWalk.i64_in _ ⟨by omega, by omega⟩]; omega
            by_cases hmm : 1 < (m : Int) % 7
            · have y4 : IntKind.i64.wrap ((m : Int) / 7 + 1) = (abv m : Nat) := by rw [IntWalk.i64_in _ ⟨by omega, by omega⟩]; unfold abv; omega
              clear HT hb hA
              generalize abv m = am at *
              go_wp2
              go_roundw
              case rel => exact ⟨am, t + am, rfl, rfl, hp, HT2, by omega, trivial⟩
              case measure => simp [intOf]; omega
            · have y4 : IntKind.i64.wrap ((m : Int) / 7 + (m : Int) % 7) = (abv m : Nat) := by rw [IntWalk.i64_in _ ⟨by omega, by omega⟩]; unfold abv; omega
              clear HT hb hA
              generalize abv m = am at *
              go_wp2
              go_roundw
              case rel => exact ⟨am, t + am, rfl, rfl, hp, HT2, by omega, trivial⟩
              case measure => simp [intOf]; omega
theorem wide_any (n : Nat) (hn : n ≤ 9223372036854775807) (w : World) :
    Calls Tryz.prog 131 #[.int .i64 n] w fun e w' => e = .returned (.int .i64 (abv n : Nat)) ∧ w = w' := by
  by_cases h0 : n = 0
  · subst h0
    go_enter Tryz.func131, Tryz.ntmps131
    go_wp2
    go_ret
    exact ⟨rfl, rfl⟩
  · have z0 : ((n : Int) == 0) = false := by simpa using h0
    have x1 : IntKind.i64.wrap ((n : Int) - 1) = (n : Int) - 1 := IntWalk.i64_in _ ⟨by omega, by omega⟩
    have x2 : Int.tdiv ((n : Int) - 1) 7 = ((n : Int) - 1) / 7 := Int.tdiv_eq_ediv_of_nonneg (by omega)
    have x3 : IntKind.i64.wrap (((n : Int) - 1) / 7) = ((n : Int) - 1) / 7 := IntWalk.i64_in _ ⟨by omega, by omega⟩
    have x4 : IntKind.i64.wrap (((n : Int) - 1) / 7 + 1) = (abv n : Nat) := by rw [IntWalk.i64_in _ ⟨by omega, by omega⟩]; unfold abv; omega
    generalize abv n = A at *
    go_enter Tryz.func131, Tryz.ntmps131
    go_wp2
    go_ret
    exact ⟨rfl, rfl⟩
theorem tnodes_same (n : Int) (hn : n ≤ 9223372036854775807) (w : World) :
    Calls Tryz.prog 127 #[.int .i64 n] w fun e w' => e = .returned (.int .i64 (ntN n)) ∧ w = w' := by
  by_cases h0 : n < 0
  · rw [nt_neg h0]
    go_enter Tryz.func127, Tryz.ntmps127
    go_wp2
    go_ret
    exact ⟨rfl, rfl⟩
  · obtain ⟨N, rfl⟩ : ∃ N : Nat, n = N := ⟨n.toNat, by omega⟩
    rw [nt_nat]
    have hb := ndS_two (abv N) (abv N) (Nat.le_refl _)
    have hA : abv N ≤ 1317624576693539402 := by unfold abv; omega
    have hA1 := abv_pos N
    have cN := wide_any N (by omega) w
    go_enter Tryz.func127, Tryz.ntmps127
    go_wp2_with (first
      | (go_at_call 131; with_reducible refine cN.mono ?_; rintro e w1 ⟨rfl, rfl⟩))
    go_loopw [3, 4] (fun s3 s4 wr => ∃ (m t : Nat), s3 = .int .i64 m ∧ s4 = .int .i64 t ∧ 1 ≤ m ∧ Hid (t + ndS m = ndS (abv N) + m) ∧ m ≤ abv N ∧ w = wr) (fun s3 _ _ => (intOf s3).toNat)
    case atStart => exact ⟨_, _, rfl, rfl, hA1, hid (by omega), by omega, rfl⟩
    case round =>
      obtain ⟨m, t, rfl, rfl, hm1, HT, hmA, rfl⟩ := hrel
      by_cases hm : m ≤ 1
      · have HE : Hid (t = ndS (abv N)) := hid (by have := HT.out; rw [ndS_le hm] at this; omega)
        have hmi : ¬ (1 < (m : Int)) := by omega
        clear HT cN
        go_wp2
        go_ret
        exact ⟨congrArg (fun x : Nat => Ending.returned (.int .i64 (x : Int))) HE.out, rfl⟩
      · have hmi : 1 < (m : Int) := by omega
        have hlt := abv_lt hm
        have hp := abv_pos m
        have HT2 : Hid (t + abv m + ndS (abv m) = ndS (abv N) + abv m) := hid (by have := HT.out; rw [ndS_gt hm] at this; omega)
        have y5 : IntKind.i64.wrap ((t : Int) + (abv m : Nat)) = ((t + abv m : Nat) : Int) := by
          have h1 := HT2.out
          rw [IntWalk.i64_in _ ⟨by omega, by omega⟩]; omega
        have cM := wide_any m (by omega) w
        clear HT hb hA cN
        generalize abv m = am at *
        go_wp2_with (first
          | (go_at_call 131; with_reducible refine cM.mono ?_; rintro e w1 ⟨rfl, rfl⟩))
        go_roundw
        case rel => exact ⟨am, t + am, rfl, rfl, hp, HT2, by omega, trivial⟩
        case measure => simp [intOf]; omega
theorem tnodes_any (n : Int) (hn : n ≤ 9223372036854775807) (w : World) :
    Calls Tryz.prog 127 #[.int .i64 n] w fun e w' => e = .returned (.int .i64 (ntN n)) ∧ Below w.heap.size w w' :=
  (tnodes_same n hn w).mono fun e w' ⟨h1, h2⟩ => ⟨h1, by subst h2; exact Below.refl _ _⟩
end Go.Proofs.YtpbljjbhfhfmgaaGreatDoor
/- joistref16.areas, Right by their contracts. -/
namespace Go.Proofs.YtpbljjbhfhfmgaaGreatDoor
set_option maxRecDepth 100000
open Go.RowKit
set_option linter.unusedVariables false
set_option linter.unusedSimpArgs false
set_option maxRecDepth 100000

set_option maxHeartbeats 2000000 in
theorem rareas_any (pg sl rt rm : Int) (w : World) (h1 : 1 ≤ pg ∧ pg ≤ 64) (h2 : 2 ≤ sl ∧ sl ≤ 32) (h3 : 2 ≤ rt ∧ rt ≤ 8) (h4 : 1 ≤ rm ∧ rm ≤ 4096) :
    Calls Tryz.prog 86 #[.agg #[.int .i64 pg, .int .i64 sl, .int .i64 rt, .int .i64 rm]] w fun e w' => e = .returned (.agg #[.int .i64 1, .int .i64 2, .int .i64 rm, .int .i64 (hdN ⟨pg, sl, rt, rm⟩), .int .i64 (tbN ⟨pg, sl, rt, rm⟩), .int .i64 (rtN ⟨pg, sl, rt, rm⟩), .int .i64 (trN ⟨pg, sl, rt, rm⟩), .int .i64 (hpN ⟨pg, sl, rt, rm⟩), .int .i64 (lnN ⟨pg, sl, rt, rm⟩)]) ∧ Below w.heap.size w w' := by
  have cN : ∀ w1, Calls Tryz.prog 110 #[.int .i64 64] w1 fun e w' => e = .returned (.int .i64 13) ∧ w1 = w' := fun w1 => by have := rnodes_any 64 (by omega) w1; rwa [nt_64] at this
  obtain ⟨HD, hHD⟩ : ∃ HD, hdN ⟨pg, sl, rt, rm⟩ = HD := ⟨_, rfl⟩
  obtain ⟨TB, hTB⟩ : ∃ TB, tbN ⟨pg, sl, rt, rm⟩ = TB := ⟨_, rfl⟩
  obtain ⟨RT, hRT⟩ : ∃ RT, rtN ⟨pg, sl, rt, rm⟩ = RT := ⟨_, rfl⟩
  obtain ⟨TR, hTR⟩ : ∃ TR, trN ⟨pg, sl, rt, rm⟩ = TR := ⟨_, rfl⟩
  obtain ⟨HP, hHP⟩ : ∃ HP, hpN ⟨pg, sl, rt, rm⟩ = HP := ⟨_, rfl⟩
  obtain ⟨LN, hLN⟩ : ∃ LN, lnN ⟨pg, sl, rt, rm⟩ = LN := ⟨_, rfl⟩
  rw [hHD, hTB, hRT, hTR, hHP, hLN]
  have eHD : 2 + 2 * rm = HD := hHD
  have eTB : HD + 1 = TB := by rw [← hHD, ← hTB]; rfl
  have eRT : TB + sl / 2 = RT := by rw [← hTB, ← hRT]; rfl
  have eTR : RT + rt / 2 = TR := by rw [← hRT, ← hTR]; rfl
  have eHP : TR + 26 = HP := by rw [← hTR, ← hHP]; rfl
  have eLN : HP + 4 * pg = LN := by rw [← hHP, ← hLN]; rfl
  clear hHD hTB hRT hTR hHP hLN
  have x1 : IntKind.i64.wrap (2 * rm) = 2 * rm := IntWalk.i64_in _ ⟨by omega, by omega⟩
  have x2 : IntKind.i64.wrap (2 + 2 * rm) = HD := by rw [eHD]; exact IntWalk.i64_in _ ⟨by omega, by omega⟩
  have x3 : IntKind.i64.wrap (HD + 1) = TB := by rw [eTB]; exact IntWalk.i64_in _ ⟨by omega, by omega⟩
  have x4 : Int.tdiv sl 2 = sl / 2 := Int.tdiv_eq_ediv_of_nonneg (by omega)
  have x5 : IntKind.i64.wrap (sl / 2) = sl / 2 := IntWalk.i64_in _ ⟨by omega, by omega⟩
  have x6 : IntKind.i64.wrap (TB + sl / 2) = RT := by rw [eRT]; exact IntWalk.i64_in _ ⟨by omega, by omega⟩
  have x7 : Int.tdiv rt 2 = rt / 2 := Int.tdiv_eq_ediv_of_nonneg (by omega)
  have x8 : IntKind.i64.wrap (rt / 2) = rt / 2 := IntWalk.i64_in _ ⟨by omega, by omega⟩
  have x9 : IntKind.i64.wrap (RT + rt / 2) = TR := by rw [eTR]; exact IntWalk.i64_in _ ⟨by omega, by omega⟩
  have xa : IntKind.i64.wrap (TR + 26) = HP := by rw [eHP]; exact IntWalk.i64_in _ ⟨by omega, by omega⟩
  have xb : IntKind.i64.wrap (4 * pg) = 4 * pg := IntWalk.i64_in _ ⟨by omega, by omega⟩
  have xc : IntKind.i64.wrap (HP + 4 * pg) = LN := by rw [eLN]; exact IntWalk.i64_in _ ⟨by omega, by omega⟩
  have xd : wrap64 (TR + 26) = HP := by rw [eHP]; exact IntWalk.wrap64_in _ ⟨by omega, by omega⟩
  have xe : wrap64 (HP + 4 * pg) = LN := by rw [eLN]; exact IntWalk.wrap64_in _ ⟨by omega, by omega⟩
  clear eHD eTB eRT eTR eHP eLN h1 h2 h3 h4
  go_enter Tryz.func86, Tryz.ntmps86
  go_wp2_with fail
  go_region_with (first | (go_at_call 110; with_reducible refine (cN _).mono ?_; rintro e w1 ⟨rfl, rfl⟩))
  all_goals go_wp2
  all_goals (
    refine bodyPost_ret (v := .agg #[.int .i64 1, .int .i64 2, .int .i64 rm, .int .i64 HD, .int .i64 TB, .int .i64 RT, .int .i64 TR, .int .i64 HP, .int .i64 LN]) (by simp [results, Tryz.results86, go_sem, xd, xe]) rfl ⟨rfl, ?_⟩
    exact ((((Below.refl _ _).alloc (Nat.le_refl _) _).alloc (by simp) _).alloc (by simp; omega) _).drew)
/-- What the document's Right asks of numbers, but for the lines. -/
def ShN (s : Shp) : Prop := (1 ≤ s.pg ∧ s.pg ≤ 64) ∧ (2 ≤ s.sl ∧ s.sl ≤ 32 ∧ s.sl % 2 = 0) ∧ (2 ≤ s.rt ∧ s.rt ≤ 8 ∧ s.rt % 2 = 0) ∧ 1 ≤ s.rm ∧ s.rm ≤ 4096
theorem rrightS_any (pg sl rt rm : Int) (w : World) :
    Calls Tryz.prog 63 #[.agg #[.int .i64 pg, .int .i64 sl, .int .i64 rt, .int .i64 rm]] w fun e w' => e = .returned (.bool (shB ⟨pg, sl, rt, rm⟩)) ∧ Below w.heap.size w w' := by
  have hb0 : Below w.heap.size w (w.alloc (.cells #[.int .i64 pg, .int .i64 sl, .int .i64 rt, .int .i64 rm] 23)) := (Below.refl _ _).alloc (Nat.le_refl _) _
  by_cases hR : ShR ⟨pg, sl, rt, rm⟩
  · rw [show shB ⟨pg, sl, rt, rm⟩ = true from decide_eq_true hR]
    have hroom := hR.room
    obtain ⟨⟨h1, h2⟩, ⟨h3, h4, h5⟩, ⟨h6, h7, h8⟩, h9, ha⟩ := hR
    simp only at h1 h2 h3 h4 h5 h6 h7 h8 h9 hroom
    have cA := rareas_any pg sl rt rm (w.alloc (.cells #[.int .i64 pg, .int .i64 sl, .int .i64 rt, .int .i64 rm] 23)) ⟨h1, h2⟩ ⟨h3, h4⟩ ⟨h6, h7⟩ ⟨h9, by omega⟩
    generalize lnN ⟨pg, sl, rt, rm⟩ = LN at *
    generalize hdN ⟨pg, sl, rt, rm⟩ = HD at *
    generalize tbN ⟨pg, sl, rt, rm⟩ = TB at *
    generalize rtN ⟨pg, sl, rt, rm⟩ = RT at *
    generalize trN ⟨pg, sl, rt, rm⟩ = TR at *
    generalize hpN ⟨pg, sl, rt, rm⟩ = HP at *
    have d1 : ¬ pg < 1 := by omega
    have d2 : ¬ 64 < pg := by omega
    have d3 : ¬ sl < 2 := by omega
    have d4 : ¬ 32 < sl := by omega
    have d5 : Int.tmod sl 2 = 0 := by rw [Int.tmod_eq_emod_of_nonneg (by omega), h5]
    have d6 : ¬ rt < 2 := by omega
    have d7 : ¬ 8 < rt := by omega
    have d8 : Int.tmod rt 2 = 0 := by rw [Int.tmod_eq_emod_of_nonneg (by omega), h8]
    have d9 : ¬ rm < 1 := by omega
    have da : ¬ 4096 < rm := by omega
    have hfl : ∀ w1, (Instr.field 115 (.agg #[.int .i64 1, .int .i64 2, .int .i64 rm, .int .i64 HD, .int .i64 TB, .int .i64 RT, .int .i64 TR, .int .i64 HP, .int .i64 LN]) 6).run Tryz.prog w1 = .ok (.int .i64 LN) w1 := fun w1 => by kernel_rfl
    clear h1 h2 h3 h4 h5 h6 h7 h8 h9 hroom
    go_enter Tryz.func63, Tryz.ntmps63
    go_wp2_with (first
      | (go_at_call 86; with_reducible refine cA.mono ?_; rintro e w1 ⟨rfl, hb1⟩))
    go_ret
    exact ⟨rfl, next hb0 hb1⟩
  · rw [show shB ⟨pg, sl, rt, rm⟩ = false from decide_eq_false hR]
    rcases shp_no hR with a0 | ⟨a0, a1⟩ | ⟨a0, a1, a2⟩ | ⟨a0, a1, a2, a3⟩ | ⟨a0, a1, a2, a3, a4⟩ | ⟨a0, a1, a2, a3, a4, a5⟩ | ⟨a0, a1, a2, a3, a4, a5, a6⟩ | ⟨a0, a1, a2, a3, a4, a5, a6, a7⟩ | ⟨a0, a1, a2, a3, a4, a5, a6, a7, a8⟩ | ⟨a0, a1, a2, a3, a4, a5, a6, a7, a8, a9⟩ | ⟨a0, a1, a2, a3, a4, a5, a6, a7, a8, a9, a10⟩
    · simp only at a0
      clear hR
      go_enter Tryz.func63, Tryz.ntmps63
      go_wp2
      go_ret
      exact ⟨rfl, hb0⟩
    · simp only at a0 a1
      clear hR
      go_enter Tryz.func63, Tryz.ntmps63
      go_wp2
      go_ret
      exact ⟨rfl, hb0⟩
    · simp only at a0 a1 a2
      clear hR
      go_enter Tryz.func63, Tryz.ntmps63
      go_wp2
      go_ret
      exact ⟨rfl, hb0⟩
    · simp only at a0 a1 a2 a3
      clear hR
      go_enter Tryz.func63, Tryz.ntmps63
      go_wp2
      go_ret
      exact ⟨rfl, hb0⟩
    · simp only at a0 a1 a2 a3 a4
      have d5 : Int.tmod sl 2 = 1 := by rw [Int.tmod_eq_emod_of_nonneg (by omega), a4]
      clear hR
      go_enter Tryz.func63, Tryz.ntmps63
      go_wp2
      go_ret
      exact ⟨rfl, hb0⟩
    · simp only at a0 a1 a2 a3 a4 a5
      have d5 : Int.tmod sl 2 = 0 := by rw [Int.tmod_eq_emod_of_nonneg (by omega)]; omega
      clear hR
      go_enter Tryz.func63, Tryz.ntmps63
      go_wp2
      go_ret
      exact ⟨rfl, hb0⟩
    · simp only at a0 a1 a2 a3 a4 a5 a6
      have d5 : Int.tmod sl 2 = 0 := by rw [Int.tmod_eq_emod_of_nonneg (by omega)]; omega
      clear hR
      go_enter Tryz.func63, Tryz.ntmps63
      go_wp2
      go_ret
      exact ⟨rfl, hb0⟩
    · simp only at a0 a1 a2 a3 a4 a5 a6 a7
      have d5 : Int.tmod sl 2 = 0 := by rw [Int.tmod_eq_emod_of_nonneg (by omega)]; omega
      have d8 : Int.tmod rt 2 = 1 := by rw [Int.tmod_eq_emod_of_nonneg (by omega), a7]
      clear hR
      go_enter Tryz.func63, Tryz.ntmps63
      go_wp2
      go_ret
      exact ⟨rfl, hb0⟩
    · simp only at a0 a1 a2 a3 a4 a5 a6 a7 a8
      have d5 : Int.tmod sl 2 = 0 := by rw [Int.tmod_eq_emod_of_nonneg (by omega)]; omega
      have d8 : Int.tmod rt 2 = 0 := by rw [Int.tmod_eq_emod_of_nonneg (by omega)]; omega
      clear hR
      go_enter Tryz.func63, Tryz.ntmps63
      go_wp2
      go_ret
      exact ⟨rfl, hb0⟩
    · simp only at a0 a1 a2 a3 a4 a5 a6 a7 a8 a9
      have d5 : Int.tmod sl 2 = 0 := by rw [Int.tmod_eq_emod_of_nonneg (by omega)]; omega
      have d8 : Int.tmod rt 2 = 0 := by rw [Int.tmod_eq_emod_of_nonneg (by omega)]; omega
      clear hR
      go_enter Tryz.func63, Tryz.ntmps63
      go_wp2
      go_ret
      exact ⟨rfl, hb0⟩
    · simp only at a0 a1 a2 a3 a4 a5 a6 a7 a8 a9 a10
      have d5 : Int.tmod sl 2 = 0 := by rw [Int.tmod_eq_emod_of_nonneg (by omega)]; omega
      have d8 : Int.tmod rt 2 = 0 := by rw [Int.tmod_eq_emod_of_nonneg (by omega)]; omega
      have cA := rareas_any pg sl rt rm (w.alloc (.cells #[.int .i64 pg, .int .i64 sl, .int .i64 rt, .int .i64 rm] 23)) ⟨by omega, by omega⟩ ⟨by omega, by omega⟩ ⟨by omega, by omega⟩ ⟨by omega, by omega⟩
      generalize lnN ⟨pg, sl, rt, rm⟩ = LN at *
      generalize hdN ⟨pg, sl, rt, rm⟩ = HD at *
      generalize tbN ⟨pg, sl, rt, rm⟩ = TB at *
      generalize rtN ⟨pg, sl, rt, rm⟩ = RT at *
      generalize trN ⟨pg, sl, rt, rm⟩ = TR at *
      generalize hpN ⟨pg, sl, rt, rm⟩ = HP at *
      have hfl : ∀ w1, (Instr.field 115 (.agg #[.int .i64 1, .int .i64 2, .int .i64 rm, .int .i64 HD, .int .i64 TB, .int .i64 RT, .int .i64 TR, .int .i64 HP, .int .i64 LN]) 6).run Tryz.prog w1 = .ok (.int .i64 LN) w1 := fun w1 => by kernel_rfl
      clear hR
      go_enter Tryz.func63, Tryz.ntmps63
      go_wp2_with (first
        | (go_at_call 86; with_reducible refine cA.mono ?_; rintro e w1 ⟨rfl, hb1⟩))
      go_ret
      exact ⟨ret_bool (decide_eq_false (by omega)), next hb0 hb1⟩
end Go.Proofs.YtpbljjbhfhfmgaaGreatDoor
/- shape.evenTo, eachMayBe, the closure that lays the parts, by their contracts. -/
namespace Go.Proofs.YtpbljjbhfhfmgaaGreatDoor
set_option maxRecDepth 100000
open Go.RowKit
set_option linter.unusedVariables false
set_option linter.unusedSimpArgs false
set_option maxRecDepth 100000

def EvT (n m : Int) : Prop := n % 2 = 0 ∧ 2 ≤ n ∧ n ≤ m
instance (n m : Int) : Decidable (EvT n m) := by unfold EvT; exact inferInstance
def evB (n m : Int) : Bool := decide (EvT n m)
theorem evenTo_any (n m : Int) (w : World) :
    Calls Tryz.prog 125 #[.int .i64 n, .int .i64 m] w fun e w' => e = .returned (.bool (evB n m)) ∧ w = w' := by
  by_cases h0 : Int.tmod n 2 = 0
  · by_cases h1 : 2 ≤ n
    · by_cases h2 : n ≤ m
      · rw [show evB n m = true from decide_eq_true ⟨by rw [← Int.tmod_eq_emod_of_nonneg (by omega)]; exact h0, h1, h2⟩]
        go_enter Tryz.func125, Tryz.ntmps125
        go_wp2
        go_ret
        exact ⟨rfl, rfl⟩
      · rw [show evB n m = false from decide_eq_false (fun h => h2 h.2.2)]
        go_enter Tryz.func125, Tryz.ntmps125
        go_wp2
        go_ret
        exact ⟨rfl, rfl⟩
    · rw [show evB n m = false from decide_eq_false (fun h => h1 h.2.1)]
      go_enter Tryz.func125, Tryz.ntmps125
      go_wp2
      go_ret
      exact ⟨rfl, rfl⟩
  · rw [show evB n m = false from decide_eq_false (fun h => h0 (by rw [Int.tmod_eq_emod_of_nonneg (by have := h.2.1; omega)]; exact h.1))]
    have z : (Int.tmod n 2 == 0) = false := by simpa using h0
    clear h0
    go_enter Tryz.func125, Tryz.ntmps125
    go_wp2
    go_ret
    exact ⟨rfl, rfl⟩
/-- What each number must be, by itself. -/
def MayN (s : Shp) : Prop := (1 ≤ s.pg ∧ s.pg ≤ 64) ∧ EvT s.sl 32 ∧ EvT s.rt 8 ∧ 1 ≤ s.rm ∧ s.rm ≤ 4096
instance (s : Shp) : Decidable (MayN s) := by unfold MayN; exact inferInstance
def mayNB (s : Shp) : Bool := decide (MayN s)
theorem eachMayBe_any (s : Shp) (w : World) :
    Calls Tryz.prog 116 #[.agg #[.int .i64 s.pg, .int .i64 s.sl, .int .i64 s.rt, .int .i64 s.rm]] w fun e w' => e = .returned (.bool (mayNB s)) ∧ Below w.heap.size w w' := by
  obtain ⟨pg, sl, rt, rm⟩ := s
  simp only
  have hb0 : Below w.heap.size w (w.alloc (.cells #[.int .i64 pg, .int .i64 sl, .int .i64 rt, .int .i64 rm] 23)) := (Below.refl _ _).alloc (Nat.le_refl _) _
  have cE : ∀ n m w1, _ := fun n m w1 => evenTo_any n m w1
  by_cases h0 : 1 ≤ pg
  · by_cases h1 : pg ≤ 64
    · by_cases h2 : EvT sl 32
      · have b2 : evB sl 32 = true := decide_eq_true h2
        by_cases h3 : EvT rt 8
        · have b3 : evB rt 8 = true := decide_eq_true h3
          by_cases h4 : 1 ≤ rm
          · by_cases h5 : rm ≤ 4096
            · rw [show mayNB ⟨pg, sl, rt, rm⟩ = true from decide_eq_true ⟨⟨h0, h1⟩, h2, h3, h4, h5⟩]
              clear h2 h3
              go_enter Tryz.func116, Tryz.ntmps116
              go_wp2_with (first
                | (go_at_call 125; with_reducible refine (cE _ _ _).mono ?_; rintro e w1 ⟨rfl, rfl⟩))
              go_ret
              exact ⟨rfl, hb0⟩
            · rw [show mayNB ⟨pg, sl, rt, rm⟩ = false from decide_eq_false (fun h => h5 h.2.2.2.2)]
              clear h2 h3
              go_enter Tryz.func116, Tryz.ntmps116
              go_wp2_with (first
                | (go_at_call 125; with_reducible refine (cE _ _ _).mono ?_; rintro e w1 ⟨rfl, rfl⟩))
              go_ret
              exact ⟨ret_bool (decide_eq_false (by omega)), hb0⟩
          · rw [show mayNB ⟨pg, sl, rt, rm⟩ = false from decide_eq_false (fun h => h4 h.2.2.2.1)]
            clear h2 h3
            go_enter Tryz.func116, Tryz.ntmps116
            go_wp2_with (first
              | (go_at_call 125; with_reducible refine (cE _ _ _).mono ?_; rintro e w1 ⟨rfl, rfl⟩))
            go_ret
            exact ⟨rfl, hb0⟩
        · rw [show mayNB ⟨pg, sl, rt, rm⟩ = false from decide_eq_false (fun h => h3 h.2.2.1)]
          have b3 : evB rt 8 = false := decide_eq_false h3
          clear h2 h3
          go_enter Tryz.func116, Tryz.ntmps116
          go_wp2_with (first
            | (go_at_call 125; with_reducible refine (cE _ _ _).mono ?_; rintro e w1 ⟨rfl, rfl⟩))
          go_ret
          exact ⟨rfl, hb0⟩
      · rw [show mayNB ⟨pg, sl, rt, rm⟩ = false from decide_eq_false (fun h => h2 h.2.1)]
        have b2 : evB sl 32 = false := decide_eq_false h2
        clear h2
        go_enter Tryz.func116, Tryz.ntmps116
        go_wp2_with (first
          | (go_at_call 125; with_reducible refine (cE _ _ _).mono ?_; rintro e w1 ⟨rfl, rfl⟩))
        go_ret
        exact ⟨rfl, hb0⟩
    · rw [show mayNB ⟨pg, sl, rt, rm⟩ = false from decide_eq_false (fun h => h1 h.1.2)]
      go_enter Tryz.func116, Tryz.ntmps116
      go_wp2_with (first
        | (go_at_call 125; with_reducible refine (cE _ _ _).mono ?_; rintro e w1 ⟨rfl, rfl⟩))
      go_ret
      exact ⟨rfl, hb0⟩
  · rw [show mayNB ⟨pg, sl, rt, rm⟩ = false from decide_eq_false (fun h => h0 h.1.1)]
    go_enter Tryz.func116, Tryz.ntmps116
    go_wp2_with (first
      | (go_at_call 125; with_reducible refine (cE _ _ _).mono ?_; rintro e w1 ⟨rfl, rfl⟩))
    go_ret
    exact ⟨rfl, hb0⟩
theorem next_any (b : Nat) (E n S : Int) (w : World) (hc : w.cell? ⟨b, 0, none⟩ = some (.int .i64 E)) (hf : w.frozen? ⟨b, 0, none⟩ = false) (hS : IntKind.i64.wrap (E + n) = S) :
    Calls Tryz.prog 126 #[.int .i64 n, .pointer (some ⟨b, 0, none⟩)] w fun e w' => e = .returned (.int .i64 E) ∧ w' = w.setCell ⟨b, 0, none⟩ (.int .i64 S) := by
  go_enter Tryz.func126, Tryz.ntmps126
  go_wp2
  go_ret
  exact ⟨rfl, rfl⟩
end Go.Proofs.YtpbljjbhfhfmgaaGreatDoor
/- shape.lay by its contract. -/
namespace Go.Proofs.YtpbljjbhfhfmgaaGreatDoor
set_option maxRecDepth 100000
open Go.RowKit
set_option linter.unusedVariables false
set_option linter.unusedSimpArgs false
set_option maxRecDepth 100000

set_option maxHeartbeats 2000000 in
theorem layS_any (pg sl rt rm : Int) (w : World) (h1 : 1 ≤ pg ∧ pg ≤ 64) (h2 : 2 ≤ sl ∧ sl ≤ 32) (h3 : 2 ≤ rt ∧ rt ≤ 8) (h4 : 1 ≤ rm ∧ rm ≤ 4096) :
    Calls Tryz.prog 117 #[.agg #[.int .i64 pg, .int .i64 sl, .int .i64 rt, .int .i64 rm]] w fun e w' => e = .returned (.agg #[.int .i64 1, .int .i64 2, .int .i64 rm, .int .i64 (hdN ⟨pg, sl, rt, rm⟩), .int .i64 (tbN ⟨pg, sl, rt, rm⟩), .int .i64 (rtN ⟨pg, sl, rt, rm⟩), .int .i64 (trN ⟨pg, sl, rt, rm⟩), .int .i64 (hpN ⟨pg, sl, rt, rm⟩), .int .i64 (lnN ⟨pg, sl, rt, rm⟩)]) ∧ Below w.heap.size w w' := by
  have cN : ∀ w1, Calls Tryz.prog 127 #[.int .i64 64] w1 fun e w' => e = .returned (.int .i64 13) ∧ w1 = w' := fun w1 => by have := tnodes_same 64 (by omega) w1; rwa [nt_64] at this
  obtain ⟨HD, hHD⟩ : ∃ HD, hdN ⟨pg, sl, rt, rm⟩ = HD := ⟨_, rfl⟩
  obtain ⟨TB, hTB⟩ : ∃ TB, tbN ⟨pg, sl, rt, rm⟩ = TB := ⟨_, rfl⟩
  obtain ⟨RT, hRT⟩ : ∃ RT, rtN ⟨pg, sl, rt, rm⟩ = RT := ⟨_, rfl⟩
  obtain ⟨TR, hTR⟩ : ∃ TR, trN ⟨pg, sl, rt, rm⟩ = TR := ⟨_, rfl⟩
  obtain ⟨HP, hHP⟩ : ∃ HP, hpN ⟨pg, sl, rt, rm⟩ = HP := ⟨_, rfl⟩
  obtain ⟨LN, hLN⟩ : ∃ LN, lnN ⟨pg, sl, rt, rm⟩ = LN := ⟨_, rfl⟩
  rw [hHD, hTB, hRT, hTR, hHP, hLN]
  have eHD : 2 + 2 * rm = HD := hHD
  have eTB : HD + 1 = TB := by rw [← hHD, ← hTB]; rfl
  have eRT : TB + sl / 2 = RT := by rw [← hTB, ← hRT]; rfl
  have eTR : RT + rt / 2 = TR := by rw [← hRT, ← hTR]; rfl
  have eHP : TR + 26 = HP := by rw [← hTR, ← hHP]; rfl
  have eLN : HP + 4 * pg = LN := by rw [← hHP, ← hLN]; rfl
  clear hHD hTB hRT hTR hHP hLN
  have x1 : IntKind.i64.wrap (2 * rm) = 2 * rm := IntWalk.i64_in _ ⟨by omega, by omega⟩
  have x2 : IntKind.i64.wrap (2 + 2 * rm) = HD := by rw [eHD]; exact IntWalk.i64_in _ ⟨by omega, by omega⟩
  have x3 : IntKind.i64.wrap (HD + 1) = TB := by rw [eTB]; exact IntWalk.i64_in _ ⟨by omega, by omega⟩
  have x4 : Int.tdiv sl 2 = sl / 2 := Int.tdiv_eq_ediv_of_nonneg (by omega)
  have x5 : IntKind.i64.wrap (sl / 2) = sl / 2 := IntWalk.i64_in _ ⟨by omega, by omega⟩
  have x6 : IntKind.i64.wrap (TB + sl / 2) = RT := by rw [eRT]; exact IntWalk.i64_in _ ⟨by omega, by omega⟩
  have x7 : Int.tdiv rt 2 = rt / 2 := Int.tdiv_eq_ediv_of_nonneg (by omega)
  have x8 : IntKind.i64.wrap (rt / 2) = rt / 2 := IntWalk.i64_in _ ⟨by omega, by omega⟩
  have x9 : IntKind.i64.wrap (RT + rt / 2) = TR := by rw [eTR]; exact IntWalk.i64_in _ ⟨by omega, by omega⟩
  have xa : IntKind.i64.wrap (TR + 26) = HP := by rw [eHP]; exact IntWalk.i64_in _ ⟨by omega, by omega⟩
  have xb : IntKind.i64.wrap (pg * 32) = pg * 32 := IntWalk.i64_in _ ⟨by omega, by omega⟩
  have xb1 : Int.tdiv (pg * 32) 8 = 4 * pg := by rw [Int.tdiv_eq_ediv_of_nonneg (by omega)]; omega
  have xb2 : IntKind.i64.wrap (4 * pg) = 4 * pg := IntWalk.i64_in _ ⟨by omega, by omega⟩
  have xc : IntKind.i64.wrap (HP + 4 * pg) = LN := by rw [eLN]; exact IntWalk.i64_in _ ⟨by omega, by omega⟩
  have hmf : ∀ (fn : Fn) (first cap : Array Value) (w : World), (Instr.makeFunc fn first cap).run Tryz.prog w = .ok (.func fn first cap) w := fun _ _ _ _ => rfl
  clear eHD eTB eRT eTR eHP eLN h1 h2 h3 h4
  go_enter Tryz.func117, Tryz.ntmps117
  go_wp2_with (first
    | (go_at_call 127; with_reducible refine (cN _).mono ?_; rintro e w1 ⟨rfl, rfl⟩)
    | go_in)
  refine bodyPost_ret (v := .agg #[.int .i64 1, .int .i64 2, .int .i64 rm, .int .i64 HD, .int .i64 TB, .int .i64 RT, .int .i64 TR, .int .i64 HP, .int .i64 LN]) (by simp [results, Tryz.results117, go_sem]) rfl ⟨rfl, ?_⟩
  exact ((((Below.refl _ _).alloc (Nat.le_refl _) _).alloc (by simp) _).alloc (by simp; omega) _).alloc (by simp; omega) _
end Go.Proofs.YtpbljjbhfhfmgaaGreatDoor
/- shape.areasOf by its contract. -/
namespace Go.Proofs.YtpbljjbhfhfmgaaGreatDoor
set_option maxRecDepth 100000
open Go.RowKit
set_option linter.unusedVariables false
set_option linter.unusedSimpArgs false
set_option maxRecDepth 100000

theorem mayN_of {s : Shp} (h : ShR s) : MayN s := by
  have h6 := h.room
  obtain ⟨h1, ⟨h2, h3, h4⟩, ⟨h5, h7, h8⟩, h9, ha⟩ := h
  exact ⟨h1, ⟨h4, h2, h3⟩, ⟨h8, h5, h7⟩, h9, by omega⟩
theorem shR_of {s : Shp} (h : MayN s) (hl : lnN s ≤ 4096) : ShR s := by
  obtain ⟨h1, ⟨h2, h3, h4⟩, ⟨h5, h7, h8⟩, h9, ha⟩ := h
  exact ⟨h1, ⟨h3, h4, h2⟩, ⟨h7, h8, h5⟩, h9, hl⟩
theorem areasOf_any (s : Shp) (w : World) :
    Calls Tryz.prog 97 #[.agg #[.int .i64 s.pg, .int .i64 s.sl, .int .i64 s.rt, .int .i64 s.rm]] w fun e w' => e = .returned (.agg #[.int .i64 (ar0 s), .int .i64 (ar1 s), .int .i64 (ar2 s), .int .i64 (ar3 s), .int .i64 (ar4 s), .int .i64 (ar5 s), .int .i64 (ar6 s), .int .i64 (ar7 s), .int .i64 (ar8 s)]) ∧ Below w.heap.size w w' := by
  obtain ⟨pg, sl, rt, rm⟩ := s
  simp only
  have hb0 : Below w.heap.size w (w.alloc (.cells #[.int .i64 pg, .int .i64 sl, .int .i64 rt, .int .i64 rm] 23)) := (Below.refl _ _).alloc (Nat.le_refl _) _
  have hb1 := hb0.alloc (o := .cells #[.int .i64 0, .int .i64 0, .int .i64 0, .int .i64 0, .int .i64 0, .int .i64 0, .int .i64 0, .int .i64 0, .int .i64 0] 115) (by simp)
  have hS := (bxS4_new w ⟨pg, sl, rt, rm⟩).more (.cells #[.int .i64 0, .int .i64 0, .int .i64 0, .int .i64 0, .int .i64 0, .int .i64 0, .int .i64 0, .int .i64 0, .int .i64 0] 115)
  have hA := bxA_new (w.alloc (.cells #[.int .i64 pg, .int .i64 sl, .int .i64 rt, .int .i64 rm] 23)) Ars.z
  have cM := eachMayBe_any ⟨pg, sl, rt, rm⟩ ((w.alloc (.cells #[.int .i64 pg, .int .i64 sl, .int .i64 rt, .int .i64 rm] 23)).alloc (.cells #[.int .i64 0, .int .i64 0, .int .i64 0, .int .i64 0, .int .i64 0, .int .i64 0, .int .i64 0, .int .i64 0, .int .i64 0] 115))
  have HW : Hid (∀ w1, Below ((w.alloc (.cells #[.int .i64 pg, .int .i64 sl, .int .i64 rt, .int .i64 rm] 23)).alloc (.cells #[.int .i64 0, .int .i64 0, .int .i64 0, .int .i64 0, .int .i64 0, .int .i64 0, .int .i64 0, .int .i64 0, .int .i64 0] 115)).heap.size ((w.alloc (.cells #[.int .i64 pg, .int .i64 sl, .int .i64 rt, .int .i64 rm] 23)).alloc (.cells #[.int .i64 0, .int .i64 0, .int .i64 0, .int .i64 0, .int .i64 0, .int .i64 0, .int .i64 0, .int .i64 0, .int .i64 0] 115)) w1 → BxS4 w1 w.heap.size ⟨pg, sl, rt, rm⟩ ∧ BxA w1 (w.heap.size + 1) Ars.z ∧ Below w.heap.size w w1) := hid (fun w1 hb => by
    have e : (w.alloc (.cells #[.int .i64 pg, .int .i64 sl, .int .i64 rt, .int .i64 rm] 23)).heap.size = w.heap.size + 1 := by simp
    rw [e] at hA
    exact ⟨hS.kept hb, hA.kept hb, next hb1 hb⟩)
  clear hS hA hb0 hb1
  by_cases hM : MayN ⟨pg, sl, rt, rm⟩
  · rw [show mayNB ⟨pg, sl, rt, rm⟩ = true from decide_eq_true hM] at cM
    have cL : ∀ w1, _ := fun w1 => layS_any pg sl rt rm w1 hM.1 hM.2.1.2 hM.2.2.1.2 hM.2.2.2
    by_cases hL : lnN ⟨pg, sl, rt, rm⟩ ≤ 4096
    · obtain ⟨e0, e1, e2, e3, e4, e5, e6, e7, e8, e9⟩ := ar_t (shR_of hM hL)
      rw [e0, e1, e2, e3, e4, e5, e6, e7, e8]
      clear e0 e1 e2 e3 e4 e5 e6 e7 e8 e9 hM
      generalize lnN ⟨pg, sl, rt, rm⟩ = LN at *
      generalize hdN ⟨pg, sl, rt, rm⟩ = HD at *
      generalize tbN ⟨pg, sl, rt, rm⟩ = TB at *
      generalize rtN ⟨pg, sl, rt, rm⟩ = RT at *
      generalize trN ⟨pg, sl, rt, rm⟩ = TR at *
      generalize hpN ⟨pg, sl, rt, rm⟩ = HP at *
      have hL' : ¬ 4096 < LN := by omega
      go_enter Tryz.func97, Tryz.ntmps97
      go_wp2_with (first
        | (go_at_call 116; with_reducible refine cM.mono ?_; rintro e w1 ⟨rfl, hb1⟩; obtain ⟨hs1, ha1, hbw⟩ := HW.out w1 hb1; obtain ⟨q0, q1, q2, q3⟩ := hs1.cells)
        | (go_at_call 117; with_reducible refine (cL w1).mono ?_; rintro e w2 ⟨rfl, hb2⟩; have hlt := (ha1.kept hb2).lt; obtain ⟨s0, s1, s2, s3, s4, s5, s6, s7, s8⟩ := (ha1.kept hb2).cells; have f0 := (ha1.kept hb2).free 0; have f1 := (ha1.kept hb2).free 1; have f2 := (ha1.kept hb2).free 2; have f3 := (ha1.kept hb2).free 3; have f4 := (ha1.kept hb2).free 4; have f5 := (ha1.kept hb2).free 5; have f6 := (ha1.kept hb2).free 6; have f7 := (ha1.kept hb2).free 7; have f8 := (ha1.kept hb2).free 8; have hbw2 := next hbw hb2))
      refine bodyPost_ret (v := .agg #[.int .i64 1, .int .i64 2, .int .i64 rm, .int .i64 HD, .int .i64 TB, .int .i64 RT, .int .i64 TR, .int .i64 HP, .int .i64 LN]) (by simp [results, Tryz.results97, go_sem, hlt, s0, s1, s2, s3, s4, s5, s6, s7, s8]) rfl ⟨rfl, ?_⟩
      have hsz := hbw2.size
      refine Below.alloc ?_ (by simp; omega) _
      exact (((((((((hbw2.setCell (by simp) _).setCell (by simp) _).setCell (by simp) _).setCell (by simp) _).setCell (by simp) _).setCell (by simp) _).setCell (by simp) _).setCell (by simp) _).setCell (by simp) _)
    · obtain ⟨e0, e1, e2, e3, e4, e5, e6, e7, e8, e9⟩ := ar_f (s := ⟨pg, sl, rt, rm⟩) (fun h => hL h.2.2.2.2)
      rw [e0, e1, e2, e3, e4, e5, e6, e7, e8]
      clear e0 e1 e2 e3 e4 e5 e6 e7 e8 e9 hM
      generalize lnN ⟨pg, sl, rt, rm⟩ = LN at *
      generalize hdN ⟨pg, sl, rt, rm⟩ = HD at *
      generalize tbN ⟨pg, sl, rt, rm⟩ = TB at *
      generalize rtN ⟨pg, sl, rt, rm⟩ = RT at *
      generalize trN ⟨pg, sl, rt, rm⟩ = TR at *
      generalize hpN ⟨pg, sl, rt, rm⟩ = HP at *
      have hL' : 4096 < LN := by omega
      go_enter Tryz.func97, Tryz.ntmps97
      go_wp2_with (first
        | (go_at_call 116; with_reducible refine cM.mono ?_; rintro e w1 ⟨rfl, hb1⟩; obtain ⟨hs1, ha1, hbw⟩ := HW.out w1 hb1; obtain ⟨q0, q1, q2, q3⟩ := hs1.cells)
        | (go_at_call 117; with_reducible refine (cL w1).mono ?_; rintro e w2 ⟨rfl, hb2⟩; have hlt := (ha1.kept hb2).lt; obtain ⟨s0, s1, s2, s3, s4, s5, s6, s7, s8⟩ := (ha1.kept hb2).cells; have f0 := (ha1.kept hb2).free 0; have f1 := (ha1.kept hb2).free 1; have f2 := (ha1.kept hb2).free 2; have f3 := (ha1.kept hb2).free 3; have f4 := (ha1.kept hb2).free 4; have f5 := (ha1.kept hb2).free 5; have f6 := (ha1.kept hb2).free 6; have f7 := (ha1.kept hb2).free 7; have f8 := (ha1.kept hb2).free 8; have hbw2 := next hbw hb2))
      refine bodyPost_ret (v := .agg #[.int .i64 0, .int .i64 0, .int .i64 0, .int .i64 0, .int .i64 0, .int .i64 0, .int .i64 0, .int .i64 0, .int .i64 0]) (by simp [results, Tryz.results97, go_sem, hlt, s0, s1, s2, s3, s4, s5, s6, s7, s8]) rfl ⟨rfl, ?_⟩
      have hsz := hbw2.size
      refine Below.alloc ?_ (by simp; omega) _
      exact (((((((((hbw2.setCell (by simp) _).setCell (by simp) _).setCell (by simp) _).setCell (by simp) _).setCell (by simp) _).setCell (by simp) _).setCell (by simp) _).setCell (by simp) _).setCell (by simp) _)
  · obtain ⟨e0, e1, e2, e3, e4, e5, e6, e7, e8, e9⟩ := ar_f (fun h => hM (mayN_of h))
    rw [e0, e1, e2, e3, e4, e5, e6, e7, e8]
    clear e0 e1 e2 e3 e4 e5 e6 e7 e8 e9
    rw [show mayNB ⟨pg, sl, rt, rm⟩ = false from decide_eq_false hM] at cM
    clear hM
    go_enter Tryz.func97, Tryz.ntmps97
    go_wp2_with (first
      | (go_at_call 116; with_reducible refine cM.mono ?_; rintro e w1 ⟨rfl, hb1⟩; obtain ⟨hs1, ha1, hbw⟩ := HW.out w1 hb1; obtain ⟨s0, s1, s2, s3, s4, s5, s6, s7, s8⟩ := ha1.cells; have f0 := ha1.free 0; have f1 := ha1.free 1; have f2 := ha1.free 2; have f3 := ha1.free 3; have f4 := ha1.free 4; have f5 := ha1.free 5; have f6 := ha1.free 6; have f7 := ha1.free 7; have f8 := ha1.free 8))
    refine bodyPost_ret (v := .agg #[.int .i64 0, .int .i64 0, .int .i64 0, .int .i64 0, .int .i64 0, .int .i64 0, .int .i64 0, .int .i64 0, .int .i64 0]) (by simp [results, Tryz.results97, go_sem, s0, s1, s2, s3, s4, s5, s6, s7, s8]) rfl ⟨rfl, ?_⟩
    exact (((((((((hbw.setCell (by simp) _).setCell (by simp) _).setCell (by simp) _).setCell (by simp) _).setCell (by simp) _).setCell (by simp) _).setCell (by simp) _).setCell (by simp) _).setCell (by simp) _)
end Go.Proofs.YtpbljjbhfhfmgaaGreatDoor
/- joistref16.Areas, Outside by their contracts. -/
namespace Go.Proofs.YtpbljjbhfhfmgaaGreatDoor
set_option maxRecDepth 100000
open Go.RowKit
set_option linter.unusedVariables false
set_option linter.unusedSimpArgs false
set_option maxRecDepth 100000

end Go.Proofs.YtpbljjbhfhfmgaaGreatDoor
/- shape.Right, Areas, Outside by their contracts. -/
namespace Go.Proofs.YtpbljjbhfhfmgaaGreatDoor
set_option maxRecDepth 100000
open Go.RowKit
set_option linter.unusedVariables false
set_option linter.unusedSimpArgs false
set_option maxRecDepth 100000

theorem shRight_any (s : Shp) (hs : ShG s) (w : World) :
    Calls Tryz.prog 71 #[.agg #[.int .i64 s.pg, .int .i64 s.sl, .int .i64 s.rt, .int .i64 s.rm]] w fun e w' => e = .returned (.bool (shB s)) ∧ Below w.heap.size w w' := by
  have hb0 : Below w.heap.size w (w.alloc (.cells #[.int .i64 s.pg, .int .i64 s.sl, .int .i64 s.rt, .int .i64 s.rm] 23)) := (Below.refl _ _).alloc (Nat.le_refl _) _
  have cR : ∀ w1, _ := fun w1 => areasOf_any s w1
  by_cases hR : ShR s
  · rw [show shB s = true from decide_eq_true hR]
    obtain ⟨e0, e1, e2, e3, e4, e5, e6, e7, e8, e9⟩ := ar_t hR
    rw [e0, e1, e2, e3, e4, e5, e6, e7, e8] at cR
    clear e0 e1 e2 e3 e4 e5 e6 e7 e8 e9 hR
    generalize lnN s = LN at *
    generalize hdN s = HD at *
    generalize tbN s = TB at *
    generalize rtN s = RT at *
    generalize trN s = TR at *
    generalize hpN s = HP at *
    go_enter Tryz.func71, Tryz.ntmps71
    go_wp2_with (first
      | (go_at_call 97; with_reducible refine (cR _).mono ?_; rintro e w1 ⟨rfl, hb1⟩))
    go_ret
    exact ⟨rfl, next hb0 hb1⟩
  · rw [show shB s = false from decide_eq_false hR]
    obtain ⟨e0, e1, e2, e3, e4, e5, e6, e7, e8, e9⟩ := ar_f hR
    rw [e0, e1, e2, e3, e4, e5, e6, e7, e8] at cR
    clear e0 e1 e2 e3 e4 e5 e6 e7 e8 e9 hR
    go_enter Tryz.func71, Tryz.ntmps71
    go_wp2_with (first
      | (go_at_call 97; with_reducible refine (cR _).mono ?_; rintro e w1 ⟨rfl, hb1⟩))
    go_ret
    exact ⟨rfl, next hb0 hb1⟩
end Go.Proofs.YtpbljjbhfhfmgaaGreatDoor
