/- wal.Right, inRecords, Mine by their contracts. -/
import Derived.Test.YtgjigjjlkpkjeaaLgM
import Derived.Test.YtgjigjjlkpkjeaaPart
import Derived.Test.YtgjigjjlkpkjeaaLent
import Derived.WalkKit
namespace Go.Proofs.Ytgjigjjlkpkjeaa
set_option maxRecDepth 100000
open Go.RowKit
set_option linter.unusedVariables false
set_option linter.unusedSimpArgs false
set_option maxRecDepth 100000

theorem inG_t {g : Lg} {line : Int} (h : g.first ≤ line ∧ line < g.first + 2 * g.room) : inG g line = true := decide_eq_true h
theorem inG_f {g : Lg} {line : Int} (h : ¬ (g.first ≤ line ∧ line < g.first + 2 * g.room)) : inG g line = false := decide_eq_false h
theorem inRecords_any (M F R : Int) (line : Int) (w : World) (h0 : 0 ≤ F) (h1 : F ≤ 9223372036854775807) (h2 : 1 ≤ R) (h3 : R ≤ 4096) (hl : Rg line) :
    Calls Try.prog 17 #[.agg #[.int .i64 M, .int .i64 F, .int .i64 R], .int .i64 line] w fun e w' => e = .returned (.bool (inG ⟨M, F, R⟩ line)) ∧ Below w.heap.size w w' := by
  obtain ⟨l0, l1⟩ := hl
  have hb := (Below.refl w.heap.size w).alloc (Nat.le_refl _) (.cells #[.int .i64 M, .int .i64 F, .int .i64 R] 26)
  by_cases h : F ≤ line
  · by_cases h' : line - F < 2 * R
    · go_enter Try.func17, Try.ntmps17
      go_wp2
      go_ret
      exact ⟨ret_bool (inG_t ⟨h, by simp only; omega⟩).symm, hb⟩
    · go_enter Try.func17, Try.ntmps17
      go_wp2
      go_ret
      exact ⟨ret_bool (inG_f (by simp only; omega)).symm, hb⟩
  · go_enter Try.func17, Try.ntmps17
    go_wp2
    go_ret
    exact ⟨ret_bool (inG_f (by simp only; omega)).symm, hb⟩

theorem wright_any (M F R : Int) (n : Int) (w : World) (hg : (Lg.mk M F R).Ok) (hn : Rg n) :
    Calls Try.prog 13 #[.agg #[.int .i64 M, .int .i64 F, .int .i64 R], .int .i64 n] w fun e w' => e = .returned (.bool (rightG ⟨M, F, R⟩ n)) ∧ Below w.heap.size w w' := by
  obtain ⟨⟨m0, m1⟩, ⟨f0, f1⟩, ⟨r0, r1⟩⟩ := hg
  obtain ⟨n0, n1⟩ := hn
  simp only at m0 m1 f0 f1 r0 r1
  have hb := (Below.refl w.heap.size w).alloc (Nat.le_refl _) (.cells #[.int .i64 M, .int .i64 F, .int .i64 R] 26)
  by_cases h1 : R < 1
  · go_enter Try.func13, Try.ntmps13
    go_wp2
    go_ret
    exact ⟨ret_bool (rightG_f (fun h => by have := h.r0; simp only at this; omega)).symm, hb⟩
  · by_cases h2 : 4096 < R
    · go_enter Try.func13, Try.ntmps13
      go_wp2
      go_ret
      exact ⟨ret_bool (rightG_f (fun h => by have := h.r1; simp only at this; omega)).symm, hb⟩
    · by_cases h3 : F < 0
      · go_enter Try.func13, Try.ntmps13
        go_wp2
        go_ret
        exact ⟨ret_bool (rightG_f (fun h => by have := h.f0; simp only at this; omega)).symm, hb⟩
      · by_cases h4 : M < 0
        · go_enter Try.func13, Try.ntmps13
          go_wp2
          go_ret
          exact ⟨ret_bool (rightG_f (fun h => by have := h.m0; simp only at this; omega)).symm, hb⟩
        · by_cases h5 : n ≤ M
          · go_enter Try.func13, Try.ntmps13
            go_wp2
            go_ret
            exact ⟨ret_bool (rightG_f (fun h => by have := h.m1; simp only at this; omega)).symm, hb⟩
          · by_cases h6 : F ≤ n - 2 * R
            · have HI : Hid (inG ⟨M, F, R⟩ M = true → rightG ⟨M, F, R⟩ n = false) := fun h => rightG_f (fun hr => hr.ap (of_decide_eq_true h))
              have HJ : Hid (inG ⟨M, F, R⟩ M = false → rightG ⟨M, F, R⟩ n = true) := fun h => rightG_iff.2 ⟨by simp only; omega, by simp only; omega, by simp only; omega, by simp only; omega, by simp only; omega, by simp only; omega, of_decide_eq_false h⟩
              have hR1 : 1 ≤ R := by omega
              have hR2 : R ≤ 4096 := by omega
              have hF0 : 0 ≤ F := by omega
              have hM : Rg M := ⟨m0, m1⟩
              cases hI : inG ⟨M, F, R⟩ M
              · go_enter Try.func13, Try.ntmps13
                go_wp2_with (go_at_call 17; with_reducible refine (inRecords_any M F R M _ hF0 f1 hR1 hR2 hM).mono ?_; rintro e w' ⟨rfl, hb2⟩; rw [hI])
                go_ret
                exact ⟨ret_bool (HJ.out hI).symm, next hb hb2⟩
              · go_enter Try.func13, Try.ntmps13
                go_wp2_with (go_at_call 17; with_reducible refine (inRecords_any M F R M _ hF0 f1 hR1 hR2 hM).mono ?_; rintro e w' ⟨rfl, hb2⟩; rw [hI])
                go_ret
                exact ⟨ret_bool (HI.out hI).symm, next hb hb2⟩
            · go_enter Try.func13, Try.ntmps13
              go_wp2
              go_ret
              exact ⟨ret_bool (rightG_f (fun h => by have := h.f1; simp only at this; omega)).symm, hb⟩

theorem mineG_f {g : Lg} {line : Int} (h : rightG g 4096 = false) : mineG g line = false := by simp [mineG, h]
theorem mineG_t {g : Lg} {line : Int} (h : rightG g 4096 = true) : mineG g line = (decide (line = g.mark) || inG g line) := by simp [mineG, h]
theorem mine_any (M F R : Int) (line : Int) (w : World) (hg : (Lg.mk M F R).Ok) (hl : Rg line) :
    Calls Try.prog 14 #[.agg #[.int .i64 M, .int .i64 F, .int .i64 R], .int .i64 line] w fun e w' => e = .returned (.bool (mineG ⟨M, F, R⟩ line)) ∧ Below w.heap.size w w' := by
  have hb := (Below.refl w.heap.size w).alloc (Nat.le_refl _) (.cells #[.int .i64 M, .int .i64 F, .int .i64 R] 26)
  have h4 : Rg 4096 := by unfold Rg; omega
  have c0 : (w.alloc (.cells #[.int .i64 M, .int .i64 F, .int .i64 R] 26)).cell? ⟨w.heap.size, 0, none⟩ = some (.int .i64 M) := by simp
  have c1 : (w.alloc (.cells #[.int .i64 M, .int .i64 F, .int .i64 R] 26)).cell? ⟨w.heap.size, 1, none⟩ = some (.int .i64 F) := by simp
  have c2 : (w.alloc (.cells #[.int .i64 M, .int .i64 F, .int .i64 R] 26)).cell? ⟨w.heap.size, 2, none⟩ = some (.int .i64 R) := by simp
  have lA : w.heap.size < (w.alloc (.cells #[.int .i64 M, .int .i64 F, .int .i64 R] 26)).heap.size := by simp
  cases hr : rightG ⟨M, F, R⟩ 4096
  · have e1 := mineG_f (line := line) hr
    go_enter Try.func14, Try.ntmps14
    go_wp2_with (go_at_call 13; with_reducible refine (wright_any M F R 4096 _ hg h4).mono ?_; rintro e w' ⟨rfl, hb2⟩; rw [hr])
    go_ret
    exact ⟨ret_bool e1.symm, next hb hb2⟩
  · have hR := rightG_iff.1 hr
    have hR1 : 1 ≤ R := hR.r0
    have hR2 : R ≤ 4096 := hR.r1
    have hF0 : 0 ≤ F := hR.f0
    have hF1 : F ≤ 9223372036854775807 := hg.f.2
    have e1 : mineG ⟨M, F, R⟩ line = (decide (line = M) || inG ⟨M, F, R⟩ line) := mineG_t (line := line) hr
    have HE : Hid (mineG ⟨M, F, R⟩ line = (decide (line = M) || inG ⟨M, F, R⟩ line)) := e1
    clear e1 hR
    by_cases he : line = M
    · go_enter Try.func14, Try.ntmps14
      go_wp2_with (go_at_call 13; with_reducible refine (wright_any M F R 4096 _ hg h4).mono ?_; rintro e w' ⟨rfl, hb2⟩; rw [hr]; have d0 := (hb2.cell (p := ⟨w.heap.size, 0, none⟩) lA).trans c0; have d1 := (hb2.cell (p := ⟨w.heap.size, 1, none⟩) lA).trans c1; have d2 := (hb2.cell (p := ⟨w.heap.size, 2, none⟩) lA).trans c2)
      go_ret
      exact ⟨ret_bool (by rw [HE.out, he]; simp), next hb hb2⟩
    · go_enter Try.func14, Try.ntmps14
      go_wp2_with (first
        | (go_at_call 13; with_reducible refine (wright_any M F R 4096 _ hg h4).mono ?_; rintro e w' ⟨rfl, hb2⟩; rw [hr]; have d0 := (hb2.cell (p := ⟨w.heap.size, 0, none⟩) lA).trans c0; have d1 := (hb2.cell (p := ⟨w.heap.size, 1, none⟩) lA).trans c1; have d2 := (hb2.cell (p := ⟨w.heap.size, 2, none⟩) lA).trans c2)
        | (go_at_call 17; with_reducible refine (inRecords_any M F R line _ hF0 hF1 hR1 hR2 hl).mono ?_; rintro e w3 ⟨rfl, hb3⟩))
      go_ret
      exact ⟨ret_bool (by rw [HE.out]; simp [he]), next (next hb hb2) hb3⟩
end Go.Proofs.Ytgjigjjlkpkjeaa
