/- joistref14.Nodes, tree.wide, Nodes by their contracts. -/
import Derived.Test.YtfglbhdfdpnnfaaDoorNtM
import Derived.Test.YtfglbhdfdpnnfaaDoorLent
import Derived.BigQuiet
import Derived.Laws.ResultCell
import Derived.Lib.OthersKept
import Derived.WalkKit
import Derived.LoopTactic
namespace Go.Proofs.YtfglbhdfdpnnfaaDoor
set_option maxRecDepth 100000
open Go.RowKit
set_option linter.unusedVariables false
set_option linter.unusedSimpArgs false
set_option maxRecDepth 100000

theorem rnodes_any (n : Int) (hn : n ≤ 9223372036854775807) (w : World) :
    Calls Tryd.prog 49 #[.int .i64 n] w fun e w' => e = .returned (.int .i64 (ntN n)) ∧ w = w' := by
  by_cases h0 : n < 0
  · rw [nt_neg h0]
    go_enter Tryd.func49, Tryd.ntmps49
    go_wp2
    go_ret
    exact ⟨rfl, rfl⟩
  · obtain ⟨N, rfl⟩ : ∃ N : Nat, n = N := ⟨n.toNat, by omega⟩
    rw [nt_nat]
    have hb := ndS_two (abv N) (abv N) (Nat.le_refl _)
    have hA : abv N ≤ 1317624576693539402 := by unfold abv; omega
    have x1 : Int.tdiv (N : Int) 7 = (N : Int) / 7 := Int.tdiv_eq_ediv_of_nonneg (by omega)
    have x2 : IntKind.i64.wrap ((N : Int) / 7) = (N : Int) / 7 := IntWalk.i64_in _ ⟨by omega, by omega⟩
    have x3 : Int.tmod (N : Int) 7 = (N : Int) % 7 := Int.tmod_eq_emod_of_nonneg (by omega)
    by_cases hN0 : N = 0
    · subst hN0
      have e : ndS (abv 0) = 1 := by rw [show abv 0 = 1 by decide, ndS_le (by omega)]
      rw [e]
      clear x1 x2 x3
      go_enter Tryd.func49, Tryd.ntmps49
      go_wp2
      go_loopw [0, 3] (fun s0 s3 wr => s0 = .int .i64 1 ∧ s3 = .int .i64 1 ∧ w = wr) (fun s0 _ _ => 0)
      case atStart => exact ⟨rfl, rfl, rfl⟩
      case round =>
        obtain ⟨rfl, rfl, rfl⟩ := hrel
        go_wp2
        go_ret
        exact ⟨rfl, rfl⟩
    · have hA1 := abv_pos N
      have hAn : ¬ ((abv N : Nat) : Int) < 1 := by omega
      by_cases hm : 1 < (N : Int) % 7
      · have x4 : IntKind.i64.wrap ((N : Int) / 7 + 1) = (abv N : Nat) := by rw [IntWalk.i64_in _ ⟨by omega, by omega⟩]; unfold abv; omega
        go_enter Tryd.func49, Tryd.ntmps49
        go_wp2
        go_loopw [0, 3] (fun s0 s3 wr => ∃ (m t : Nat), s0 = .int .i64 m ∧ s3 = .int .i64 t ∧ 1 ≤ m ∧ Hid (t + ndS m = ndS (abv N) + m) ∧ m ≤ abv N ∧ w = wr) (fun s0 _ _ => (intOf s0).toNat)
        case atStart => exact ⟨_, _, rfl, rfl, hA1, hid (by omega), by omega, rfl⟩
        case round =>
          obtain ⟨m, t, rfl, rfl, hm1, HT, hmA, rfl⟩ := hrel
          by_cases hm : m ≤ 1
          · have HE : Hid (t = ndS (abv N)) := hid (by have := HT.out; rw [ndS_le hm] at this; omega)
            have hmi : ¬ (1 < (m : Int)) := by omega
            clear HT
            go_wp2
            go_ret
            exact ⟨congrArg (fun x : Nat => Ending.returned (.int .i64 (x : Int))) HE.out, rfl⟩
          · have hmi : 1 < (m : Int) := by omega
            have hlt := abv_lt hm
            have hp := abv_pos m
            have HT2 : Hid (t + abv m + ndS (abv m) = ndS (abv N) + abv m) := hid (by have := HT.out; rw [ndS_gt hm] at this; omega)
            have y1 : Int.tdiv (m : Int) 7 = (m : Int) / 7 := Int.tdiv_eq_ediv_of_nonneg (by omega)
            have y2 : IntKind.i64.wrap ((m : Int) / 7) = (m : Int) / 7 := IntWalk.i64_in _ ⟨by omega, by omega⟩
            have y3 : Int.tmod (m : Int) 7 = (m : Int) % 7 := Int.tmod_eq_emod_of_nonneg (by omega)
            have y5 : IntKind.i64.wrap ((t : Int) + (abv m : Nat)) = ((t + abv m : Nat) : Int) := by
              have h1 := HT2.out
              rw [IntWalk.i64_in _ ⟨by omega, by omega⟩]; omega
            by_cases hmm : 1 < (m : Int) % 7
            · have y4 : IntKind.i64.wrap ((m : Int) / 7 + 1) = (abv m : Nat) := by rw [IntWalk.i64_in _ ⟨by omega, by omega⟩]; unfold abv; omega
              clear HT hb hA
              generalize abv m = am at *
              go_wp2
              go_roundw
              case rel => exact ⟨am, t + am, rfl, rfl, hp, HT2, by omega, trivial⟩
              case measure => simp [intOf]; omega
            · have y4 : IntKind.i64.wrap ((m : Int) / 7 + (m : Int) % 7) = (abv m : Nat) := by rw [IntWalk.i64_in _ ⟨by omega, by omega⟩]; unfold abv; omega
              clear HT hb hA
              generalize abv m = am at *
              go_wp2
              go_roundw
              case rel => exact ⟨am, t + am, rfl, rfl, hp, HT2, by omega, trivial⟩
              case measure => simp [intOf]; omega
      · have x4 : IntKind.i64.wrap ((N : Int) / 7 + (N : Int) % 7) = (abv N : Nat) := by rw [IntWalk.i64_in _ ⟨by omega, by omega⟩]; unfold abv; omega
        go_enter Tryd.func49, Tryd.ntmps49
        go_wp2
        go_loopw [0, 3] (fun s0 s3 wr => ∃ (m t : Nat), s0 = .int .i64 m ∧ s3 = .int .i64 t ∧ 1 ≤ m ∧ Hid (t + ndS m = ndS (abv N) + m) ∧ m ≤ abv N ∧ w = wr) (fun s0 _ _ => (intOf s0).toNat)
        case atStart => exact ⟨_, _, rfl, rfl, hA1, hid (by omega), by omega, rfl⟩
        case round =>
          obtain ⟨m, t, rfl, rfl, hm1, HT, hmA, rfl⟩ := hrel
          by_cases hm : m ≤ 1
          · have HE : Hid (t = ndS (abv N)) := hid (by have := HT.out; rw [ndS_le hm] at this; omega)
            have hmi : ¬ (1 < (m : Int)) := by omega
            clear HT
            go_wp2
            go_ret
            exact ⟨congrArg (fun x : Nat => Ending.returned (.int .i64 (x : Int))) HE.out, rfl⟩
          · have hmi : 1 < (m : Int) := by omega
            have hlt := abv_lt hm
            have hp := abv_pos m
            have HT2 : Hid (t + abv m + ndS (abv m) = ndS (abv N) + abv m) := hid (by have := HT.out; rw [ndS_gt hm] at this; omega)
            have y1 : Int.tdiv (m : Int) 7 = (m : Int) / 7 := Int.tdiv_eq_ediv_of_nonneg (by omega)
            have y2 : IntKind.i64.wrap ((m : Int) / 7) = (m : Int) / 7 := IntWalk.i64_in _ ⟨by omega, by omega⟩
            have y3 : Int.tmod (m : Int) 7 = (m : Int) % 7 := Int.tmod_eq_emod_of_nonneg (by omega)
            have y5 : IntKind.i64.wrap ((t : Int) + (abv m : Nat)) = ((t + abv m : Nat) : Int) := by
              have h1 := HT2.out
              rw [IntWalk.i64_in _ ⟨by omega, by omega⟩]; omega
            by_cases hmm : 1 < (m : Int) % 7
            · have y4 : IntKind.i64.wrap ((m : Int) / 7 + 1) = (abv m : Nat) := by rw [IntWalk.i64_in _ ⟨by omega, by omega⟩]; unfold abv; omega
              clear HT hb hA
              generalize abv m = am at *
              go_wp2
              go_roundw
              case rel => exact ⟨am, t + am, rfl, rfl, hp, HT2, by omega, trivial⟩
              case measure => simp [intOf]; omega
            · have y4 : IntKind.i64.wrap ((m : Int) / 7 + (m : Int) % 7) = (abv m : Nat) := by rw [IntWalk.i64_in _ ⟨by omega, by omega⟩]; unfold abv; omega
              clear HT hb hA
              generalize abv m = am at *
              go_wp2
              go_roundw
              case rel => exact ⟨am, t + am, rfl, rfl, hp, HT2, by omega, trivial⟩
              case measure => simp [intOf]; omega
theorem wide_any (n : Nat) (hn : n ≤ 9223372036854775807) (w : World) :
    Calls Tryd.prog 55 #[.int .i64 n] w fun e w' => e = .returned (.int .i64 (abv n : Nat)) ∧ w = w' := by
  by_cases h0 : n = 0
  · subst h0
    go_enter Tryd.func55, Tryd.ntmps55
    go_wp2
    go_ret
    exact ⟨rfl, rfl⟩
  · have z0 : ((n : Int) == 0) = false := by simpa using h0
    have x1 : IntKind.i64.wrap ((n : Int) - 1) = (n : Int) - 1 := IntWalk.i64_in _ ⟨by omega, by omega⟩
    have x2 : Int.tdiv ((n : Int) - 1) 7 = ((n : Int) - 1) / 7 := Int.tdiv_eq_ediv_of_nonneg (by omega)
    have x3 : IntKind.i64.wrap (((n : Int) - 1) / 7) = ((n : Int) - 1) / 7 := IntWalk.i64_in _ ⟨by omega, by omega⟩
    have x4 : IntKind.i64.wrap (((n : Int) - 1) / 7 + 1) = (abv n : Nat) := by rw [IntWalk.i64_in _ ⟨by omega, by omega⟩]; unfold abv; omega
    generalize abv n = A at *
    go_enter Tryd.func55, Tryd.ntmps55
    go_wp2
    go_ret
    exact ⟨rfl, rfl⟩
theorem tnodes_same (n : Int) (hn : n ≤ 9223372036854775807) (w : World) :
    Calls Tryd.prog 54 #[.int .i64 n] w fun e w' => e = .returned (.int .i64 (ntN n)) ∧ w = w' := by
  by_cases h0 : n < 0
  · rw [nt_neg h0]
    go_enter Tryd.func54, Tryd.ntmps54
    go_wp2
    go_ret
    exact ⟨rfl, rfl⟩
  · obtain ⟨N, rfl⟩ : ∃ N : Nat, n = N := ⟨n.toNat, by omega⟩
    rw [nt_nat]
    have hb := ndS_two (abv N) (abv N) (Nat.le_refl _)
    have hA : abv N ≤ 1317624576693539402 := by unfold abv; omega
    have hA1 := abv_pos N
    have cN := wide_any N (by omega) w
    go_enter Tryd.func54, Tryd.ntmps54
    go_wp2_with (first
      | (go_at_call 55; with_reducible refine cN.mono ?_; rintro e w1 ⟨rfl, rfl⟩))
    go_loopw [3, 4] (fun s3 s4 wr => ∃ (m t : Nat), s3 = .int .i64 m ∧ s4 = .int .i64 t ∧ 1 ≤ m ∧ Hid (t + ndS m = ndS (abv N) + m) ∧ m ≤ abv N ∧ w = wr) (fun s3 _ _ => (intOf s3).toNat)
    case atStart => exact ⟨_, _, rfl, rfl, hA1, hid (by omega), by omega, rfl⟩
    case round =>
      obtain ⟨m, t, rfl, rfl, hm1, HT, hmA, rfl⟩ := hrel
      by_cases hm : m ≤ 1
      · have HE : Hid (t = ndS (abv N)) := hid (by have := HT.out; rw [ndS_le hm] at this; omega)
        have hmi : ¬ (1 < (m : Int)) := by omega
        clear HT cN
        go_wp2
        go_ret
        exact ⟨congrArg (fun x : Nat => Ending.returned (.int .i64 (x : Int))) HE.out, rfl⟩
      · have hmi : 1 < (m : Int) := by omega
        have hlt := abv_lt hm
        have hp := abv_pos m
        have HT2 : Hid (t + abv m + ndS (abv m) = ndS (abv N) + abv m) := hid (by have := HT.out; rw [ndS_gt hm] at this; omega)
        have y5 : IntKind.i64.wrap ((t : Int) + (abv m : Nat)) = ((t + abv m : Nat) : Int) := by
          have h1 := HT2.out
          rw [IntWalk.i64_in _ ⟨by omega, by omega⟩]; omega
        have cM := wide_any m (by omega) w
        clear HT hb hA cN
        generalize abv m = am at *
        go_wp2_with (first
          | (go_at_call 55; with_reducible refine cM.mono ?_; rintro e w1 ⟨rfl, rfl⟩))
        go_roundw
        case rel => exact ⟨am, t + am, rfl, rfl, hp, HT2, by omega, trivial⟩
        case measure => simp [intOf]; omega
theorem tnodes_any (n : Int) (hn : n ≤ 9223372036854775807) (w : World) :
    Calls Tryd.prog 54 #[.int .i64 n] w fun e w' => e = .returned (.int .i64 (ntN n)) ∧ Below w.heap.size w w' :=
  (tnodes_same n hn w).mono fun e w' ⟨h1, h2⟩ => ⟨h1, by subst h2; exact Below.refl _ _⟩
end Go.Proofs.YtfglbhdfdpnnfaaDoor
