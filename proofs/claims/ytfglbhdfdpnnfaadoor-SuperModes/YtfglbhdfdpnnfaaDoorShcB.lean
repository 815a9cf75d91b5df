/- shape.lay by its contract. -/
import Derived.Test.YtfglbhdfdpnnfaaDoorShcA
namespace Go.Proofs.YtfglbhdfdpnnfaaDoor
set_option maxRecDepth 100000
open Go.RowKit
set_option linter.unusedVariables false
set_option linter.unusedSimpArgs false
set_option maxRecDepth 100000

set_option maxHeartbeats 2000000 in
theorem layS_any (pg sl rt rm : Int) (w : World) (h1 : 1 ≤ pg ∧ pg ≤ 64) (h2 : 2 ≤ sl ∧ sl ≤ 32) (h3 : 2 ≤ rt ∧ rt ≤ 8) (h4 : 1 ≤ rm ∧ rm ≤ 4096) :
    Calls Tryd.prog 48 #[.agg #[.int .i64 pg, .int .i64 sl, .int .i64 rt, .int .i64 rm]] w fun e w' => e = .returned (.agg #[.int .i64 1, .int .i64 2, .int .i64 rm, .int .i64 (hdN ⟨pg, sl, rt, rm⟩), .int .i64 (tbN ⟨pg, sl, rt, rm⟩), .int .i64 (rtN ⟨pg, sl, rt, rm⟩), .int .i64 (trN ⟨pg, sl, rt, rm⟩), .int .i64 (hpN ⟨pg, sl, rt, rm⟩), .int .i64 (lnN ⟨pg, sl, rt, rm⟩)]) ∧ Below w.heap.size w w' := by
  have cN : ∀ w1, Calls Tryd.prog 54 #[.int .i64 64] w1 fun e w' => e = .returned (.int .i64 13) ∧ w1 = w' := fun w1 => by have := tnodes_same 64 (by omega) w1; rwa [nt_64] at this
  obtain ⟨HD, hHD⟩ : ∃ HD, hdN ⟨pg, sl, rt, rm⟩ = HD := ⟨_, rfl⟩
  obtain ⟨TB, hTB⟩ : ∃ TB, tbN ⟨pg, sl, rt, rm⟩ = TB := ⟨_, rfl⟩
  obtain ⟨RT, hRT⟩ : ∃ RT, rtN ⟨pg, sl, rt, rm⟩ = RT := ⟨_, rfl⟩
  obtain ⟨TR, hTR⟩ : ∃ TR, trN ⟨pg, sl, rt, rm⟩ = TR := ⟨_, rfl⟩
  obtain ⟨HP, hHP⟩ : ∃ HP, hpN ⟨pg, sl, rt, rm⟩ = HP := ⟨_, rfl⟩
  obtain ⟨LN, hLN⟩ : ∃ LN, lnN ⟨pg, sl, rt, rm⟩ = LN := ⟨_, rfl⟩
  rw [hHD, hTB, hRT, hTR, hHP, hLN]
  have eHD : 2 + 2 * rm = HD := hHD
  have eTB : HD + 1 = TB := by rw [← hHD, ← hTB]; rfl
  have eRT : TB + sl / 2 = RT := by rw [← hTB, ← hRT]; rfl
  have eTR : RT + rt / 2 = TR := by rw [← hRT, ← hTR]; rfl
  have eHP : TR + 26 = HP := by rw [← hTR, ← hHP]; rfl
  have eLN : HP + 4 * pg = LN := by rw [← hHP, ← hLN]; rfl
  clear hHD hTB hRT hTR hHP hLN
  have x1 : IntKind.i64.wrap (2 * rm) = 2 * rm := IntWalk.i64_in _ ⟨by omega, by omega⟩
  have x2 : IntKind.i64.wrap (2 + 2 * rm) = HD := by rw [eHD]; exact IntWalk.i64_in _ ⟨by omega, by omega⟩
  have x3 : IntKind.i64.wrap (HD + 1) = TB := by rw [eTB]; exact IntWalk.i64_in _ ⟨by omega, by omega⟩
  have x4 : Int.tdiv sl 2 = sl / 2 := Int.tdiv_eq_ediv_of_nonneg (by omega)
  have x5 : IntKind.i64.wrap (sl / 2) = sl / 2 := IntWalk.i64_in _ ⟨by omega, by omega⟩
  have x6 : IntKind.i64.wrap (TB + sl / 2) = RT := by rw [eRT]; exact IntWalk.i64_in _ ⟨by omega, by omega⟩
  have x7 : Int.tdiv rt 2 = rt / 2 := Int.tdiv_eq_ediv_of_nonneg (by omega)
  have x8 : IntKind.i64.wrap (rt / 2) = rt / 2 := IntWalk.i64_in _ ⟨by omega, by omega⟩
  have x9 : IntKind.i64.wrap (RT + rt / 2) = TR := by rw [eTR]; exact IntWalk.i64_in _ ⟨by omega, by omega⟩
  have xa : IntKind.i64.wrap (TR + 26) = HP := by rw [eHP]; exact IntWalk.i64_in _ ⟨by omega, by omega⟩
  have xb : IntKind.i64.wrap (pg * 32) = pg * 32 := IntWalk.i64_in _ ⟨by omega, by omega⟩
  have xb1 : Int.tdiv (pg * 32) 8 = 4 * pg := by rw [Int.tdiv_eq_ediv_of_nonneg (by omega)]; omega
  have xb2 : IntKind.i64.wrap (4 * pg) = 4 * pg := IntWalk.i64_in _ ⟨by omega, by omega⟩
  have xc : IntKind.i64.wrap (HP + 4 * pg) = LN := by rw [eLN]; exact IntWalk.i64_in _ ⟨by omega, by omega⟩
  have hmf : ∀ (fn : Fn) (first cap : Array Value) (w : World), (Instr.makeFunc fn first cap).run Tryd.prog w = .ok (.func fn first cap) w := fun _ _ _ _ => rfl
  clear eHD eTB eRT eTR eHP eLN h1 h2 h3 h4
  go_enter Tryd.func48, Tryd.ntmps48
  go_wp2_with (first
    | (go_at_call 54; with_reducible refine (cN _).mono ?_; rintro e w1 ⟨rfl, rfl⟩)
    | go_in)
  refine bodyPost_ret (v := .agg #[.int .i64 1, .int .i64 2, .int .i64 rm, .int .i64 HD, .int .i64 TB, .int .i64 RT, .int .i64 TR, .int .i64 HP, .int .i64 LN]) (by simp [results, Tryd.results48, go_sem]) rfl ⟨rfl, ?_⟩
  exact ((((Below.refl _ _).alloc (Nat.le_refl _) _).alloc (by simp) _).alloc (by simp; omega) _).alloc (by simp; omega) _
end Go.Proofs.YtfglbhdfdpnnfaaDoor
