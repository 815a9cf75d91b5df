/- wal.Right, inRecords, Mine, meets by their contracts. -/
import Derived.Test.YtgiippbjieecmaaWalMath
namespace Go.Proofs.Ytgiippbjieecmaa
set_option maxRecDepth 100000
open Go.RowKit
set_option linter.unusedVariables false

theorem inG_t {g : Lg} {line : Int} (h : g.first ≤ line ∧ line < g.first + 2 * g.room) : inG g line = true := decide_eq_true h
theorem inG_f {g : Lg} {line : Int} (h : ¬ (g.first ≤ line ∧ line < g.first + 2 * g.room)) : inG g line = false := decide_eq_false h
theorem inRecords_any (M F R : Int) (line : Int) (w : World) (h0 : 0 ≤ F) (h1 : F ≤ 9223372036854775807) (h2 : 1 ≤ R) (h3 : R ≤ 4096) (hl : Rg line) :
    Calls Try.prog 41 #[.agg #[.int .i64 M, .int .i64 F, .int .i64 R], .int .i64 line] w fun e w' => e = .returned (.bool (inG ⟨M, F, R⟩ line)) ∧ Below w.heap.size w w' := by
  obtain ⟨l0, l1⟩ := hl
  have hb := (Below.refl w.heap.size w).alloc (Nat.le_refl _) (.cells #[.int .i64 M, .int .i64 F, .int .i64 R] 23)
  by_cases h : F ≤ line
  · by_cases h' : line - F < 2 * R
    · go_enter Try.func41, Try.ntmps41
      go_wp2
      go_ret
      exact ⟨ret_bool (inG_t ⟨h, by simp only; omega⟩).symm, hb⟩
    · go_enter Try.func41, Try.ntmps41
      go_wp2
      go_ret
      exact ⟨ret_bool (inG_f (by simp only; omega)).symm, hb⟩
  · go_enter Try.func41, Try.ntmps41
    go_wp2
    go_ret
    exact ⟨ret_bool (inG_f (by simp only; omega)).symm, hb⟩

theorem wright_any (M F R : Int) (n : Int) (w : World) (hg : (Lg.mk M F R).Ok) (hn : Rg n) :
    Calls Try.prog 13 #[.agg #[.int .i64 M, .int .i64 F, .int .i64 R], .int .i64 n] w fun e w' => e = .returned (.bool (rightG ⟨M, F, R⟩ n)) ∧ Below w.heap.size w w' := by
  obtain ⟨⟨m0, m1⟩, ⟨f0, f1⟩, ⟨r0, r1⟩⟩ := hg
  obtain ⟨n0, n1⟩ := hn
  simp only at m0 m1 f0 f1 r0 r1
  have hb := (Below.refl w.heap.size w).alloc (Nat.le_refl _) (.cells #[.int .i64 M, .int .i64 F, .int .i64 R] 23)
  by_cases h1 : R < 1
  · go_enter Try.func13, Try.ntmps13
    go_wp2
    go_ret
    exact ⟨ret_bool (rightG_f (fun h => by have := h.r0; simp only at this; omega)).symm, hb⟩
  · by_cases h2 : 4096 < R
    · go_enter Try.func13, Try.ntmps13
      go_wp2
      go_ret
      exact ⟨ret_bool (rightG_f (fun h => by have := h.r1; simp only at this; omega)).symm, hb⟩
    · by_cases h3 : F < 0
      · go_enter Try.func13, Try.ntmps13
        go_wp2
        go_ret
        exact ⟨ret_bool (rightG_f (fun h => by have := h.f0; simp only at this; omega)).symm, hb⟩
      · by_cases h4 : M < 0
        · go_enter Try.func13, Try.ntmps13
          go_wp2
          go_ret
          exact ⟨ret_bool (rightG_f (fun h => by have := h.m0; simp only at this; omega)).symm, hb⟩
        · by_cases h5 : n ≤ M
          · go_enter Try.func13, Try.ntmps13
            go_wp2
            go_ret
            exact ⟨ret_bool (rightG_f (fun h => by have := h.m1; simp only at this; omega)).symm, hb⟩
          · by_cases h6 : F ≤ n - 2 * R
            · have HI : Hid (inG ⟨M, F, R⟩ M = true → rightG ⟨M, F, R⟩ n = false) := fun h => rightG_f (fun hr => hr.ap (of_decide_eq_true h))
              have HJ : Hid (inG ⟨M, F, R⟩ M = false → rightG ⟨M, F, R⟩ n = true) := fun h => rightG_iff.2 ⟨by simp only; omega, by simp only; omega, by simp only; omega, by simp only; omega, by simp only; omega, by simp only; omega, of_decide_eq_false h⟩
              have hR1 : 1 ≤ R := by omega
              have hR2 : R ≤ 4096 := by omega
              have hF0 : 0 ≤ F := by omega
              have hM : Rg M := ⟨m0, m1⟩
              cases hI : inG ⟨M, F, R⟩ M
              · go_enter Try.func13, Try.ntmps13
                go_wp2_with (go_at_call 41; with_reducible refine (inRecords_any M F R M _ hF0 f1 hR1 hR2 hM).mono ?_; rintro e w' ⟨rfl, hb2⟩; rw [hI])
                go_ret
                exact ⟨ret_bool (HJ.out hI).symm, next hb hb2⟩
              · go_enter Try.func13, Try.ntmps13
                go_wp2_with (go_at_call 41; with_reducible refine (inRecords_any M F R M _ hF0 f1 hR1 hR2 hM).mono ?_; rintro e w' ⟨rfl, hb2⟩; rw [hI])
                go_ret
                exact ⟨ret_bool (HI.out hI).symm, next hb hb2⟩
            · go_enter Try.func13, Try.ntmps13
              go_wp2
              go_ret
              exact ⟨ret_bool (rightG_f (fun h => by have := h.f1; simp only at this; omega)).symm, hb⟩

theorem mineG_f {g : Lg} {line : Int} (h : rightG g 4096 = false) : mineG g line = false := by simp [mineG, h]
theorem mineG_t {g : Lg} {line : Int} (h : rightG g 4096 = true) : mineG g line = (decide (line = g.mark) || inG g line) := by simp [mineG, h]
theorem mine_any (M F R : Int) (line : Int) (w : World) (hg : (Lg.mk M F R).Ok) (hl : Rg line) :
    Calls Try.prog 15 #[.agg #[.int .i64 M, .int .i64 F, .int .i64 R], .int .i64 line] w fun e w' => e = .returned (.bool (mineG ⟨M, F, R⟩ line)) ∧ Below w.heap.size w w' := by
  have hb := (Below.refl w.heap.size w).alloc (Nat.le_refl _) (.cells #[.int .i64 M, .int .i64 F, .int .i64 R] 23)
  have h4 : Rg 4096 := by unfold Rg; omega
  have c0 : (w.alloc (.cells #[.int .i64 M, .int .i64 F, .int .i64 R] 23)).cell? ⟨w.heap.size, 0, none⟩ = some (.int .i64 M) := by simp
  have c1 : (w.alloc (.cells #[.int .i64 M, .int .i64 F, .int .i64 R] 23)).cell? ⟨w.heap.size, 1, none⟩ = some (.int .i64 F) := by simp
  have c2 : (w.alloc (.cells #[.int .i64 M, .int .i64 F, .int .i64 R] 23)).cell? ⟨w.heap.size, 2, none⟩ = some (.int .i64 R) := by simp
  have lA : w.heap.size < (w.alloc (.cells #[.int .i64 M, .int .i64 F, .int .i64 R] 23)).heap.size := by simp
  cases hr : rightG ⟨M, F, R⟩ 4096
  · have e1 := mineG_f (line := line) hr
    go_enter Try.func15, Try.ntmps15
    go_wp2_with (go_at_call 13; with_reducible refine (wright_any M F R 4096 _ hg h4).mono ?_; rintro e w' ⟨rfl, hb2⟩; rw [hr])
    go_ret
    exact ⟨ret_bool e1.symm, next hb hb2⟩
  · have hR := rightG_iff.1 hr
    have hR1 : 1 ≤ R := hR.r0
    have hR2 : R ≤ 4096 := hR.r1
    have hF0 : 0 ≤ F := hR.f0
    have hF1 : F ≤ 9223372036854775807 := hg.f.2
    have e1 : mineG ⟨M, F, R⟩ line = (decide (line = M) || inG ⟨M, F, R⟩ line) := mineG_t (line := line) hr
    have HE : Hid (mineG ⟨M, F, R⟩ line = (decide (line = M) || inG ⟨M, F, R⟩ line)) := e1
    clear e1 hR
    by_cases he : line = M
    · go_enter Try.func15, Try.ntmps15
      go_wp2_with (go_at_call 13; with_reducible refine (wright_any M F R 4096 _ hg h4).mono ?_; rintro e w' ⟨rfl, hb2⟩; rw [hr]; have d0 := (hb2.cell (p := ⟨w.heap.size, 0, none⟩) lA).trans c0; have d1 := (hb2.cell (p := ⟨w.heap.size, 1, none⟩) lA).trans c1; have d2 := (hb2.cell (p := ⟨w.heap.size, 2, none⟩) lA).trans c2)
      go_ret
      exact ⟨ret_bool (by rw [HE.out, he]; simp), next hb hb2⟩
    · go_enter Try.func15, Try.ntmps15
      go_wp2_with (first
        | (go_at_call 13; with_reducible refine (wright_any M F R 4096 _ hg h4).mono ?_; rintro e w' ⟨rfl, hb2⟩; rw [hr]; have d0 := (hb2.cell (p := ⟨w.heap.size, 0, none⟩) lA).trans c0; have d1 := (hb2.cell (p := ⟨w.heap.size, 1, none⟩) lA).trans c1; have d2 := (hb2.cell (p := ⟨w.heap.size, 2, none⟩) lA).trans c2)
        | (go_at_call 41; with_reducible refine (inRecords_any M F R line _ hF0 hF1 hR1 hR2 hl).mono ?_; rintro e w3 ⟨rfl, hb3⟩))
      go_ret
      exact ⟨ret_bool (by rw [HE.out]; simp [he]), next (next hb hb2) hb3⟩

/-- The closure that 'meets' hands on. -/
theorem meets1_any (M F R : Int) (gb : Nat) (line : Int) (ba : Option Addr) (bl bc : Nat) (w : World) (hg : (Lg.mk M F R).Ok) (hl : Rg line) (c0 : w.cell? ⟨gb, 0, none⟩ = some (.int .i64 M)) (c1 : w.cell? ⟨gb, 1, none⟩ = some (.int .i64 F)) (c2 : w.cell? ⟨gb, 2, none⟩ = some (.int .i64 R)) (hlt : gb < w.heap.size) :
    Calls Try.prog 63 #[.agg #[.int .i64 line, .slice ba bl bc], .pointer (some ⟨gb, 0, none⟩)] w fun e w' => e = .returned (.bool (mineG ⟨M, F, R⟩ line)) ∧ Below w.heap.size w w' := by
  have hb := (Below.refl w.heap.size w).alloc (Nat.le_refl _) (.cells #[.int .i64 line, .slice ba bl bc] 65)
  have d0 := (hb.cell (p := ⟨gb, 0, none⟩) hlt).trans c0
  have d1 := (hb.cell (p := ⟨gb, 1, none⟩) hlt).trans c1
  have d2 := (hb.cell (p := ⟨gb, 2, none⟩) hlt).trans c2
  go_enter Try.func63, Try.ntmps63
  go_wp2_with (go_at_call 15; with_reducible refine (mine_any M F R line _ hg hl).mono ?_; rintro e w' ⟨rfl, hb2⟩)
  go_ret
  exact ⟨rfl, next hb hb2⟩

theorem index_any (M F R : Int) (gb : Nat) (lo : Option Addr) (m lc : Nat) (D : Nat → ChD) (w : World) (hg : (Lg.mk M F R).Ok) (h : Chs w lo m D) (c0 : w.cell? ⟨gb, 0, none⟩ = some (.int .i64 M)) (c1 : w.cell? ⟨gb, 1, none⟩ = some (.int .i64 F)) (c2 : w.cell? ⟨gb, 2, none⟩ = some (.int .i64 R)) (hgl : gb < w.heap.size) :
    Calls Try.prog 77 #[.slice lo m lc, .func (.func 63) #[] #[.pointer (some ⟨gb, 0, none⟩)]] w fun e w' => ∃ z : Int, e = .returned (.int .i64 z) ∧ (decide (0 ≤ z) = meetsG ⟨M, F, R⟩ (saysN D m)) ∧ Below w.heap.size w w' := by
  have hm9 := h.fit
  go_enter Try.func77, Try.ntmps77
  go_wp2
  go_loopw [8] (fun t wr => ∃ k : Nat, k ≤ m ∧ t = .int .i64 k ∧ Hid (meetsG ⟨M, F, R⟩ (saysN D k) = false) ∧ Below w.heap.size w wr) (fun t _ => m - (intOf t).toNat)
  case atStart => exact ⟨0, Nat.zero_le _, rfl, hid rfl, Below.refl _ _⟩
  case round =>
    obtain ⟨k, hk, rfl, HK, hb⟩ := hrel
    by_cases hlt : k < m
    · obtain ⟨b1, o1, rfl, _, _⟩ := h.here (by omega)
      obtain ⟨x1, x2, ok⟩ := h.later hb hlt
      have hki : (k : Int) < (m : Int) := by omega
      have HT : Hid (mineG ⟨M, F, R⟩ (D k).line = false → meetsG ⟨M, F, R⟩ (saysN D (k + 1)) = false) := fun e => by
        have := HK.out
        unfold meetsG at this ⊢
        rw [saysN_succ, List.any_append, this]
        simpa [ChD.says] using e
      have HF : Hid (mineG ⟨M, F, R⟩ (D k).line = true → meetsG ⟨M, F, R⟩ (saysN D m) = true) := fun e => by
        unfold meetsG
        rw [List.any_eq_true]
        exact ⟨_, says_mem D hlt, e⟩
      have hrl := ok.r
      have d0 := (hb.cell (p := ⟨gb, 0, none⟩) hgl).trans c0
      have d1 := (hb.cell (p := ⟨gb, 1, none⟩) hgl).trans c1
      have d2 := (hb.cell (p := ⟨gb, 2, none⟩) hgl).trans c2
      have hgl' : gb < wr.heap.size := Nat.lt_of_lt_of_le hgl hb.size
      obtain ⟨A, hA⟩ : ∃ A, A = D k := ⟨_, rfl⟩
      rw [← hA] at x1 x2 HT HF hrl
      clear ok hA h c0 c1 c2
      cases hf : mineG ⟨M, F, R⟩ A.line
      · go_wp2_with (go_at_call 63; with_reducible refine (meets1_any M F R gb A.line A.ba A.bl A.bc _ hg hrl d0 d1 d2 hgl').mono ?_; rintro e w' ⟨rfl, hb2⟩; rw [hf]; have hb3 := next hb hb2)
        go_roundw
        case rel => exact ⟨k + 1, by omega, by go_num, hid (HT.out hf), hb3⟩
        case measure => simp [intOf]; omega
      · go_wp2_with (go_at_call 63; with_reducible refine (meets1_any M F R gb A.line A.ba A.bl A.bc _ hg hrl d0 d1 d2 hgl').mono ?_; rintro e w' ⟨rfl, hb2⟩; rw [hf]; have hb3 := next hb hb2)
        go_ret
        exact ⟨_, rfl, by rw [HF.out hf]; exact decide_eq_true (by omega), hb3⟩
    · obtain rfl : k = m := by omega
      go_wp2
      go_ret
      exact ⟨_, rfl, by rw [HK.out]; rfl, hb⟩

theorem meets_any (M F R : Int) (lo : Option Addr) (m lc : Nat) (D : Nat → ChD) (w : World) (hg : (Lg.mk M F R).Ok) (h : Chs w lo m D) :
    Calls Try.prog 34 #[.agg #[.int .i64 M, .int .i64 F, .int .i64 R], .slice lo m lc] w fun e w' => e = .returned (.bool (meetsG ⟨M, F, R⟩ (saysN D m))) ∧ Below w.heap.size w w' := by
  have hb := (Below.refl w.heap.size w).alloc (Nat.le_refl _) (.cells #[.int .i64 M, .int .i64 F, .int .i64 R] 23)
  have c0 : (w.alloc (.cells #[.int .i64 M, .int .i64 F, .int .i64 R] 23)).cell? ⟨w.heap.size, 0, none⟩ = some (.int .i64 M) := by simp
  have c1 : (w.alloc (.cells #[.int .i64 M, .int .i64 F, .int .i64 R] 23)).cell? ⟨w.heap.size, 1, none⟩ = some (.int .i64 F) := by simp
  have c2 : (w.alloc (.cells #[.int .i64 M, .int .i64 F, .int .i64 R] 23)).cell? ⟨w.heap.size, 2, none⟩ = some (.int .i64 R) := by simp
  have lA : w.heap.size < (w.alloc (.cells #[.int .i64 M, .int .i64 F, .int .i64 R] 23)).heap.size := by simp
  have cI := index_any M F R w.heap.size lo m lc D _ hg (h.below hb) c0 c1 c2 lA
  have cC : Calls Try.prog 62 #[.slice lo m lc, .func (.func 63) #[] #[.pointer (some ⟨w.heap.size, 0, none⟩)]] (w.alloc (.cells #[.int .i64 M, .int .i64 F, .int .i64 R] 23)) fun e w' => e = .returned (.bool (meetsG ⟨M, F, R⟩ (saysN D m))) ∧ Below w.heap.size w w' := by
    go_enter Try.func62, Try.ntmps62
    go_wp2_with (go_at_call 77; with_reducible refine cI.mono ?_; rintro e w' ⟨z, rfl, hz, hb2⟩)
    go_ret
    exact ⟨rfl, next hb hb2⟩
  go_enter Try.func34, Try.ntmps34
  go_wp2_with (go_at_call 62; with_reducible refine cC.mono ?_; rintro e w' ⟨rfl, hb2⟩)
  go_ret
  exact ⟨rfl, hb2⟩
end Go.Proofs.Ytgiippbjieecmaa
