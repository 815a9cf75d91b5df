/- joistref16.areas, Right by their contracts. -/
import Derived.Test.YtfglbhdfdpnnfaaDoorShpM
import Derived.Test.YtfglbhdfdpnnfaaDoorNtP
import Derived.Test.YtfglbhdfdpnnfaaDoorArR
namespace Go.Proofs.YtfglbhdfdpnnfaaDoor
set_option maxRecDepth 100000
open Go.RowKit
set_option linter.unusedVariables false
set_option linter.unusedSimpArgs false
set_option maxRecDepth 100000

set_option maxHeartbeats 2000000 in
theorem rareas_any (pg sl rt rm : Int) (w : World) (h1 : 1 ≤ pg ∧ pg ≤ 64) (h2 : 2 ≤ sl ∧ sl ≤ 32) (h3 : 2 ≤ rt ∧ rt ≤ 8) (h4 : 1 ≤ rm ∧ rm ≤ 4096) :
    Calls Tryd.prog 40 #[.agg #[.int .i64 pg, .int .i64 sl, .int .i64 rt, .int .i64 rm]] w fun e w' => e = .returned (.agg #[.int .i64 1, .int .i64 2, .int .i64 rm, .int .i64 (hdN ⟨pg, sl, rt, rm⟩), .int .i64 (tbN ⟨pg, sl, rt, rm⟩), .int .i64 (rtN ⟨pg, sl, rt, rm⟩), .int .i64 (trN ⟨pg, sl, rt, rm⟩), .int .i64 (hpN ⟨pg, sl, rt, rm⟩), .int .i64 (lnN ⟨pg, sl, rt, rm⟩)]) ∧ Below w.heap.size w w' := by
  have cN : ∀ w1, Calls Tryd.prog 49 #[.int .i64 64] w1 fun e w' => e = .returned (.int .i64 13) ∧ w1 = w' := fun w1 => by have := rnodes_any 64 (by omega) w1; rwa [nt_64] at this
  obtain ⟨HD, hHD⟩ : ∃ HD, hdN ⟨pg, sl, rt, rm⟩ = HD := ⟨_, rfl⟩
  obtain ⟨TB, hTB⟩ : ∃ TB, tbN ⟨pg, sl, rt, rm⟩ = TB := ⟨_, rfl⟩
  obtain ⟨RT, hRT⟩ : ∃ RT, rtN ⟨pg, sl, rt, rm⟩ = RT := ⟨_, rfl⟩
  obtain ⟨TR, hTR⟩ : ∃ TR, trN ⟨pg, sl, rt, rm⟩ = TR := ⟨_, rfl⟩
  obtain ⟨HP, hHP⟩ : ∃ HP, hpN ⟨pg, sl, rt, rm⟩ = HP := ⟨_, rfl⟩
  obtain ⟨LN, hLN⟩ : ∃ LN, lnN ⟨pg, sl, rt, rm⟩ = LN := ⟨_, rfl⟩
  rw [hHD, hTB, hRT, hTR, hHP, hLN]
  have eHD : 2 + 2 * rm = HD := hHD
  have eTB : HD + 1 = TB := by rw [← hHD, ← hTB]; rfl
  have eRT : TB + sl / 2 = RT := by rw [← hTB, ← hRT]; rfl
  have eTR : RT + rt / 2 = TR := by rw [← hRT, ← hTR]; rfl
  have eHP : TR + 26 = HP := by rw [← hTR, ← hHP]; rfl
  have eLN : HP + 4 * pg = LN := by rw [← hHP, ← hLN]; rfl
  clear hHD hTB hRT hTR hHP hLN
  have x1 : IntKind.i64.wrap (2 * rm) = 2 * rm := IntWalk.i64_in _ ⟨by omega, by omega⟩
  have x2 : IntKind.i64.wrap (2 + 2 * rm) = HD := by rw [eHD]; exact IntWalk.i64_in _ ⟨by omega, by omega⟩
  have x3 : IntKind.i64.wrap (HD + 1) = TB := by rw [eTB]; exact IntWalk.i64_in _ ⟨by omega, by omega⟩
  have x4 : Int.tdiv sl 2 = sl / 2 := Int.tdiv_eq_ediv_of_nonneg (by omega)
  have x5 : IntKind.i64.wrap (sl / 2) = sl / 2 := IntWalk.i64_in _ ⟨by omega, by omega⟩
  have x6 : IntKind.i64.wrap (TB + sl / 2) = RT := by rw [eRT]; exact IntWalk.i64_in _ ⟨by omega, by omega⟩
  have x7 : Int.tdiv rt 2 = rt / 2 := Int.tdiv_eq_ediv_of_nonneg (by omega)
  have x8 : IntKind.i64.wrap (rt / 2) = rt / 2 := IntWalk.i64_in _ ⟨by omega, by omega⟩
  have x9 : IntKind.i64.wrap (RT + rt / 2) = TR := by rw [eTR]; exact IntWalk.i64_in _ ⟨by omega, by omega⟩
  have xa : IntKind.i64.wrap (TR + 26) = HP := by rw [eHP]; exact IntWalk.i64_in _ ⟨by omega, by omega⟩
  have xb : IntKind.i64.wrap (4 * pg) = 4 * pg := IntWalk.i64_in _ ⟨by omega, by omega⟩
  have xc : IntKind.i64.wrap (HP + 4 * pg) = LN := by rw [eLN]; exact IntWalk.i64_in _ ⟨by omega, by omega⟩
  have xd : wrap64 (TR + 26) = HP := by rw [eHP]; exact IntWalk.wrap64_in _ ⟨by omega, by omega⟩
  have xe : wrap64 (HP + 4 * pg) = LN := by rw [eLN]; exact IntWalk.wrap64_in _ ⟨by omega, by omega⟩
  clear eHD eTB eRT eTR eHP eLN h1 h2 h3 h4
  go_enter Tryd.func40, Tryd.ntmps40
  go_wp2_with fail
  go_region_with (first | (go_at_call 49; with_reducible refine (cN _).mono ?_; rintro e w1 ⟨rfl, rfl⟩))
  all_goals go_wp2
  all_goals (
    refine bodyPost_ret (v := .agg #[.int .i64 1, .int .i64 2, .int .i64 rm, .int .i64 HD, .int .i64 TB, .int .i64 RT, .int .i64 TR, .int .i64 HP, .int .i64 LN]) (by simp [results, Tryd.results40, go_sem, xd, xe]) rfl ⟨rfl, ?_⟩
    exact ((((Below.refl _ _).alloc (Nat.le_refl _) _).alloc (by simp) _).alloc (by simp; omega) _).drew)
/-- What the document's Right asks of numbers, but for the lines. -/
def ShN (s : Shp) : Prop := (1 ≤ s.pg ∧ s.pg ≤ 64) ∧ (2 ≤ s.sl ∧ s.sl ≤ 32 ∧ s.sl % 2 = 0) ∧ (2 ≤ s.rt ∧ s.rt ≤ 8 ∧ s.rt % 2 = 0) ∧ 1 ≤ s.rm ∧ s.rm ≤ 4096
theorem rrightS_any (pg sl rt rm : Int) (w : World) :
    Calls Tryd.prog 29 #[.agg #[.int .i64 pg, .int .i64 sl, .int .i64 rt, .int .i64 rm]] w fun e w' => e = .returned (.bool (shB ⟨pg, sl, rt, rm⟩)) ∧ Below w.heap.size w w' := by
  have hb0 : Below w.heap.size w (w.alloc (.cells #[.int .i64 pg, .int .i64 sl, .int .i64 rt, .int .i64 rm] 23)) := (Below.refl _ _).alloc (Nat.le_refl _) _
  by_cases hR : ShR ⟨pg, sl, rt, rm⟩
  · rw [show shB ⟨pg, sl, rt, rm⟩ = true from decide_eq_true hR]
    have hroom := hR.room
    obtain ⟨⟨h1, h2⟩, ⟨h3, h4, h5⟩, ⟨h6, h7, h8⟩, h9, ha⟩ := hR
    simp only at h1 h2 h3 h4 h5 h6 h7 h8 h9 hroom
    have cA := rareas_any pg sl rt rm (w.alloc (.cells #[.int .i64 pg, .int .i64 sl, .int .i64 rt, .int .i64 rm] 23)) ⟨h1, h2⟩ ⟨h3, h4⟩ ⟨h6, h7⟩ ⟨h9, by omega⟩
    generalize lnN ⟨pg, sl, rt, rm⟩ = LN at *
    generalize hdN ⟨pg, sl, rt, rm⟩ = HD at *
    generalize tbN ⟨pg, sl, rt, rm⟩ = TB at *
    generalize rtN ⟨pg, sl, rt, rm⟩ = RT at *
    generalize trN ⟨pg, sl, rt, rm⟩ = TR at *
    generalize hpN ⟨pg, sl, rt, rm⟩ = HP at *
    have d1 : ¬ pg < 1 := by omega
    have d2 : ¬ 64 < pg := by omega
    have d3 : ¬ sl < 2 := by omega
    have d4 : ¬ 32 < sl := by omega
    have d5 : Int.tmod sl 2 = 0 := by rw [Int.tmod_eq_emod_of_nonneg (by omega), h5]
    have d6 : ¬ rt < 2 := by omega
    have d7 : ¬ 8 < rt := by omega
    have d8 : Int.tmod rt 2 = 0 := by rw [Int.tmod_eq_emod_of_nonneg (by omega), h8]
    have d9 : ¬ rm < 1 := by omega
    have da : ¬ 4096 < rm := by omega
    have hfl : ∀ w1, (Instr.field 59 (.agg #[.int .i64 1, .int .i64 2, .int .i64 rm, .int .i64 HD, .int .i64 TB, .int .i64 RT, .int .i64 TR, .int .i64 HP, .int .i64 LN]) 6).run Tryd.prog w1 = .ok (.int .i64 LN) w1 := fun w1 => by kernel_rfl
    clear h1 h2 h3 h4 h5 h6 h7 h8 h9 hroom
    go_enter Tryd.func29, Tryd.ntmps29
    go_wp2_with (first
      | (go_at_call 40; with_reducible refine cA.mono ?_; rintro e w1 ⟨rfl, hb1⟩))
    go_ret
    exact ⟨rfl, next hb0 hb1⟩
  · rw [show shB ⟨pg, sl, rt, rm⟩ = false from decide_eq_false hR]
    rcases shp_no hR with a0 | ⟨a0, a1⟩ | ⟨a0, a1, a2⟩ | ⟨a0, a1, a2, a3⟩ | ⟨a0, a1, a2, a3, a4⟩ | ⟨a0, a1, a2, a3, a4, a5⟩ | ⟨a0, a1, a2, a3, a4, a5, a6⟩ | ⟨a0, a1, a2, a3, a4, a5, a6, a7⟩ | ⟨a0, a1, a2, a3, a4, a5, a6, a7, a8⟩ | ⟨a0, a1, a2, a3, a4, a5, a6, a7, a8, a9⟩ | ⟨a0, a1, a2, a3, a4, a5, a6, a7, a8, a9, a10⟩
    · simp only at a0
      clear hR
      go_enter Tryd.func29, Tryd.ntmps29
      go_wp2
      go_ret
      exact ⟨rfl, hb0⟩
    · simp only at a0 a1
      clear hR
      go_enter Tryd.func29, Tryd.ntmps29
      go_wp2
      go_ret
      exact ⟨rfl, hb0⟩
    · simp only at a0 a1 a2
      clear hR
      go_enter Tryd.func29, Tryd.ntmps29
      go_wp2
      go_ret
      exact ⟨rfl, hb0⟩
    · simp only at a0 a1 a2 a3
      clear hR
      go_enter Tryd.func29, Tryd.ntmps29
      go_wp2
      go_ret
      exact ⟨rfl, hb0⟩
    · simp only at a0 a1 a2 a3 a4
      have d5 : Int.tmod sl 2 = 1 := by rw [Int.tmod_eq_emod_of_nonneg (by omega), a4]
      clear hR
      go_enter Tryd.func29, Tryd.ntmps29
      go_wp2
      go_ret
      exact ⟨rfl, hb0⟩
    · simp only at a0 a1 a2 a3 a4 a5
      have d5 : Int.tmod sl 2 = 0 := by rw [Int.tmod_eq_emod_of_nonneg (by omega)]; omega
      clear hR
      go_enter Tryd.func29, Tryd.ntmps29
      go_wp2
      go_ret
      exact ⟨rfl, hb0⟩
    · simp only at a0 a1 a2 a3 a4 a5 a6
      have d5 : Int.tmod sl 2 = 0 := by rw [Int.tmod_eq_emod_of_nonneg (by omega)]; omega
      clear hR
      go_enter Tryd.func29, Tryd.ntmps29
      go_wp2
      go_ret
      exact ⟨rfl, hb0⟩
    · simp only at a0 a1 a2 a3 a4 a5 a6 a7
      have d5 : Int.tmod sl 2 = 0 := by rw [Int.tmod_eq_emod_of_nonneg (by omega)]; omega
      have d8 : Int.tmod rt 2 = 1 := by rw [Int.tmod_eq_emod_of_nonneg (by omega), a7]
      clear hR
      go_enter Tryd.func29, Tryd.ntmps29
      go_wp2
      go_ret
      exact ⟨rfl, hb0⟩
    · simp only at a0 a1 a2 a3 a4 a5 a6 a7 a8
      have d5 : Int.tmod sl 2 = 0 := by rw [Int.tmod_eq_emod_of_nonneg (by omega)]; omega
      have d8 : Int.tmod rt 2 = 0 := by rw [Int.tmod_eq_emod_of_nonneg (by omega)]; omega
      clear hR
      go_enter Tryd.func29, Tryd.ntmps29
      go_wp2
      go_ret
      exact ⟨rfl, hb0⟩
    · simp only at a0 a1 a2 a3 a4 a5 a6 a7 a8 a9
      have d5 : Int.tmod sl 2 = 0 := by rw [Int.tmod_eq_emod_of_nonneg (by omega)]; omega
      have d8 : Int.tmod rt 2 = 0 := by rw [Int.tmod_eq_emod_of_nonneg (by omega)]; omega
      clear hR
      go_enter Tryd.func29, Tryd.ntmps29
      go_wp2
      go_ret
      exact ⟨rfl, hb0⟩
    · simp only at a0 a1 a2 a3 a4 a5 a6 a7 a8 a9 a10
      have d5 : Int.tmod sl 2 = 0 := by rw [Int.tmod_eq_emod_of_nonneg (by omega)]; omega
      have d8 : Int.tmod rt 2 = 0 := by rw [Int.tmod_eq_emod_of_nonneg (by omega)]; omega
      have cA := rareas_any pg sl rt rm (w.alloc (.cells #[.int .i64 pg, .int .i64 sl, .int .i64 rt, .int .i64 rm] 23)) ⟨by omega, by omega⟩ ⟨by omega, by omega⟩ ⟨by omega, by omega⟩ ⟨by omega, by omega⟩
      generalize lnN ⟨pg, sl, rt, rm⟩ = LN at *
      generalize hdN ⟨pg, sl, rt, rm⟩ = HD at *
      generalize tbN ⟨pg, sl, rt, rm⟩ = TB at *
      generalize rtN ⟨pg, sl, rt, rm⟩ = RT at *
      generalize trN ⟨pg, sl, rt, rm⟩ = TR at *
      generalize hpN ⟨pg, sl, rt, rm⟩ = HP at *
      have hfl : ∀ w1, (Instr.field 59 (.agg #[.int .i64 1, .int .i64 2, .int .i64 rm, .int .i64 HD, .int .i64 TB, .int .i64 RT, .int .i64 TR, .int .i64 HP, .int .i64 LN]) 6).run Tryd.prog w1 = .ok (.int .i64 LN) w1 := fun w1 => by kernel_rfl
      clear hR
      go_enter Tryd.func29, Tryd.ntmps29
      go_wp2_with (first
        | (go_at_call 40; with_reducible refine cA.mono ?_; rintro e w1 ⟨rfl, hb1⟩))
      go_ret
      exact ⟨ret_bool (decide_eq_false (by omega)), next hb0 hb1⟩
end Go.Proofs.YtfglbhdfdpnnfaaDoor
