/- wal.recordOf, markOf, Write by their contracts. -/
import Derived.Test.YtgiippbjieecmaaGreatMgF
import Derived.Test.YtgiippbjieecmaaGreatCat
import Derived.Test.YtgiippbjieecmaaGreatOf
import Derived.Test.YtgiippbjieecmaaGreatStep
namespace Go.Proofs.YtgiippbjieecmaaGreat
set_option maxRecDepth 100000
open Go.RowKit
set_option linter.unusedVariables false

theorem own_at {k : IntKind} {e : TypeId} {B : Nat} {w : World} {ao : Option Addr} {n cap : Nat} {zs : List Int} (h : Own k e B w ao n cap zs) {c : Addr} (hc : ao = some c) : B ≤ c.block ∧ c.block < w.heap.size := by
  rcases h.row.2 with ⟨hv, h0⟩ | ⟨g, cap', cur, hv, hg, hh, _⟩
  · simp only [Value.slice.injEq] at hv
    rw [hc] at hv
    simp at hv
  · simp only [Value.slice.injEq] at hv
    rw [hc] at hv
    simp only [Option.some.injEq] at hv
    obtain ⟨rfl, _⟩ := hv
    exact ⟨hg, (Array.getElem?_eq_some_iff.1 hh).1⟩
theorem sl_eight (w : World) (x y : Int) : Sl .i64 (w.alloc (.cells #[.int .i64 x, .int .i64 y, .int .i64 0, .int .i64 0, .int .i64 0, .int .i64 0, .int .i64 0, .int .i64 0] 3)) (some ⟨w.heap.size, 0, none⟩) 8 8 [x, y, 0, 0, 0, 0, 0, 0] := by
  refine ⟨rfl, Nat.le_refl _, (by intro h; cases h), fun _ => ⟨_, _, rfl, by simp, fun i hi => ?_⟩⟩
  obtain rfl | rfl | rfl | rfl | rfl | rfl | rfl | rfl : i = 0 ∨ i = 1 ∨ i = 2 ∨ i = 3 ∨ i = 4 ∨ i = 5 ∨ i = 6 ∨ i = 7 := by omega
  all_goals simp
theorem of_eight (ao : Option Addr) (cap : Nat) (x y : Int) (w : World) (h : Sl .i64 w ao 8 cap [x, y, 0, 0, 0, 0, 0, 0]) (hk : okL [x, y, 0, 0, 0, 0, 0, 0] = true) :
    Calls Tryz.prog 66 #[.slice ao 8 cap] w fun e w' => ∃ bo c, e = .returned (.tuple #[.slice bo 64 c, .int .i64 0]) ∧ Own .u8 5 w.heap.size w' bo 64 c (ofL [x, y, 0, 0, 0, 0, 0, 0]) ∧ Below w.heap.size w w' := by
  refine (of_any ao 8 cap _ w h (by omega)).mono ?_
  rintro e w' ⟨bo, m, c, rfl, hown, hbel⟩
  rw [ofR_t hk] at hown
  rw [ofE_t hk]
  obtain rfl : m = 64 := by rw [← hown.len, ofL_length]; rfl
  exact ⟨bo, c, rfl, hown, hbel⟩

theorem recordOf_any (line : Int) (ba : Option Addr) (bl bc : Nat) (bz : List Int) (w : World) (hs : Sl .u8 w ba bl bc bz) (h0 : 0 ≤ line ∧ line ≤ 4096) (hl : bl + 64 ≤ 140737488355328) :
    Calls Tryz.prog 46 #[.agg #[.int .i64 line, .slice ba bl bc]] w fun e w' => ∃ bo c, e = .returned (.slice bo (64 + bl) c) ∧ Own .u8 5 w.heap.size w' bo (64 + bl) c (recL (line, bz)) ∧ Below w.heap.size w w' := by
  have hk := okL_rec h0
  have b0 := (Below.refl w.heap.size w).alloc (Nat.le_refl _) (.cells #[.int .i64 line, .slice ba bl bc] 49)
  have h1 := sl_eight (w.alloc (.cells #[.int .i64 line, .slice ba bl bc] 49)) line 0
  have b1 : Below w.heap.size w ((w.alloc (.cells #[.int .i64 line, .slice ba bl bc] 49)).alloc (.cells #[.int .i64 line, .int .i64 0, .int .i64 0, .int .i64 0, .int .i64 0, .int .i64 0, .int .i64 0, .int .i64 0] 3)) := b0.alloc b0.size _
  have cA1 : ((w.alloc (.cells #[.int .i64 line, .slice ba bl bc] 49)).alloc (.cells #[.int .i64 line, .int .i64 0, .int .i64 0, .int .i64 0, .int .i64 0, .int .i64 0, .int .i64 0, .int .i64 0] 3)).cell? ⟨w.heap.size, 1, none⟩ = some (.slice ba bl bc) := by
    rw [World.cell?_alloc_past _ _ _ (by simp)]; simp
  have lA : w.heap.size < ((w.alloc (.cells #[.int .i64 line, .slice ba bl bc] 49)).alloc (.cells #[.int .i64 line, .int .i64 0, .int .i64 0, .int .i64 0, .int .i64 0, .int .i64 0, .int .i64 0, .int .i64 0] 3)).heap.size := by simp; omega
  have hn : 64 + bl ≤ 140737488355328 := by omega
  rw [show (w.alloc (.cells #[.int .i64 line, .slice ba bl bc] 49)).heap.size = w.heap.size + 1 by simp] at h1
  go_enter Tryz.func46, Tryz.ntmps46
  go_wp2_with (first
    | (go_at_call 66; with_reducible refine (of_eight _ _ line 0 _ h1 hk).mono ?_; rintro e w2 ⟨bo, c, rfl, hown, hbel⟩; have b2 := next b1 hbel; have c2 := (hbel.cell (p := ⟨w.heap.size, 1, none⟩) lA).trans cA1; have b3 : Below w2.heap.size w2 (w2.alloc (.cells #[.slice bo 64 c, .slice ba bl bc] 22)) := (Below.refl _ _).alloc (Nat.le_refl _) _; have s1 := (hs.below b2).below b3; have s0 := (hown.below b3).sl)
    | (go_at_call 67; with_reducible refine (concat_two _ _ _ _ _ _ _ _ _ bz _ (by simp) (by simp) (by simp) s0 s1 hn).mono ?_; rintro e w4 ⟨bo', c', rfl, hown', hbel'⟩))
  go_ret
  exact ⟨bo', c', rfl, hown'.mono (next b2 b3).size, next (next b2 b3) hbel'⟩

theorem markOf_any (ao : Option Addr) (n cap : Nat) (zs : List Int) (w : World) (hs : Sl .u8 w ao n cap zs) (hb : Bytes zs) (hn : n ≤ 524288) :
    Calls Tryz.prog 47 #[.slice ao n cap] w fun e w' => ∃ bo c, e = .returned (.slice bo 64 c) ∧ Own .u8 5 w.heap.size w' bo 64 c (markL zs) ∧ Below w.heap.size w w' := by
  have hlen := hs.len
  have hlt := sumN_lt (s := 0) (by omega) hb
  have hk : okL [((n / 128 : Nat) : Int), (sumN 0 zs : Nat), 0, 0, 0, 0, 0, 0] = true := okL_mark (by omega) hlt
  have hM : markL zs = ofL [((n / 128 : Nat) : Int), (sumN 0 zs : Nat), 0, 0, 0, 0, 0, 0] := by unfold markL markN; rw [hlen]
  rw [hM]
  clear hM hlt
  have hn0 : n ≤ 140737488355328 := by omega
  have hq : (n : Int).tdiv 128 = ((n / 128 : Nat) : Int) := by rw [Int.tdiv_eq_ediv_of_nonneg (by omega)]; omega
  have h1 := sl_eight w ((n / 128 : Nat) : Int) (sumN 0 zs : Nat)
  have b1 := (Below.refl w.heap.size w).alloc (Nat.le_refl _) (.cells #[.int .i64 ((n / 128 : Nat) : Int), .int .i64 (sumN 0 zs : Nat), .int .i64 0, .int .i64 0, .int .i64 0, .int .i64 0, .int .i64 0, .int .i64 0] 3)
  have cS := sum_any ao n cap zs w hs hb hn0
  generalize sumN 0 zs = s at *
  generalize hQ : n / 128 = q at *
  go_enter Tryz.func47, Tryz.ntmps47
  go_wp2_with (first
    | (go_at_call 68; with_reducible refine cS.mono ?_; rintro e w' ⟨rfl, rfl⟩)
    | (go_at_call 66; refine (of_eight _ _ q s _ h1 hk).mono ?_; rintro e w2 ⟨bo, c, rfl, hown, hbel⟩))
  go_ret
  exact ⟨bo, c, rfl, hown.mono b1.size, next b1 hbel⟩

def wokB (g : Lg) (l : List Chg) : Bool := rightG g 4096 && (rightL 4096 l && !meetsG g l)
set_option maxHeartbeats 1000000 in
theorem write_good (M F R : Int) (lo : Option Addr) (m lc : Nat) (D : Nat → ChD) (w : World) (hg : (Lg.mk M F R).Ok) (h : Chs w lo m D) (h1 : rightG ⟨M, F, R⟩ 4096 = true) (h2 : rightL 4096 (saysN D m) = true) (h3 : meetsG ⟨M, F, R⟩ (saysN D m) = false) (h4 : ¬ R < m) :
    Calls Tryz.prog 28 #[.agg #[.int .i64 M, .int .i64 F, .int .i64 R], .slice lo m lc] w fun e w' => ∃ ao ca bo cb, e = .returned (.tuple #[.slice ao (128 * m) ca, .slice bo 64 cb, .int .i64 0]) ∧ Own .u8 5 w.heap.size w' ao (128 * m) ca (recsL (saysN D m)) ∧ Own .u8 5 w.heap.size w' bo 64 cb (markL (recsL (saysN D m))) ∧ (∀ c d, ao = some c → bo = some d → c.block ≠ d.block) ∧ Below w.heap.size w w' := by
  have hR := (rightG_iff.1 h1).r1
  simp only at hR
  have hm : m ≤ 4096 := by omega
  have h4k : Rg 4096 := by unfold Rg; omega
  have hb := (Below.refl w.heap.size w).alloc (Nat.le_refl _) (.cells #[.int .i64 M, .int .i64 F, .int .i64 R] 24)
  have c0 : (w.alloc (.cells #[.int .i64 M, .int .i64 F, .int .i64 R] 24)).cell? ⟨w.heap.size, 0, none⟩ = some (.int .i64 M) := by simp
  have c1 : (w.alloc (.cells #[.int .i64 M, .int .i64 F, .int .i64 R] 24)).cell? ⟨w.heap.size, 1, none⟩ = some (.int .i64 F) := by simp
  have c2 : (w.alloc (.cells #[.int .i64 M, .int .i64 F, .int .i64 R] 24)).cell? ⟨w.heap.size, 2, none⟩ = some (.int .i64 R) := by simp
  have lA : w.heap.size < (w.alloc (.cells #[.int .i64 M, .int .i64 F, .int .i64 R] 24)).heap.size := by simp
  have e2 : rightB 4096 D m = true := by rw [rightB_eq]; exact h2
  have h4' : ¬ (R < (m : Int)) := h4
  have hmem : ∀ k, k < m → 0 ≤ (D k).line ∧ (D k).line < 4096 ∧ (D k).bz.length = 64 := fun k hk => rightL_mem h2 (says_mem D hk)
  have HB : Hid (∀ k, k ≤ m → Bytes (recsL (saysN D k))) := fun k hk => recsL_bytes (fun c hc => by
    obtain ⟨i, hi, rfl⟩ : ∃ i, i < k ∧ (D i).says = c := by
      unfold saysN at hc
      rw [List.mem_map] at hc
      obtain ⟨i, hi, e⟩ := hc
      exact ⟨i, by simpa using hi, e⟩
    exact (h.ok i (by omega)).by_)
  go_enter Tryz.func28, Tryz.ntmps28
  go_wp2_with (first
    | (go_at_call 23; with_reducible refine (wright_any M F R 4096 _ hg h4k).mono ?_; rintro e w1 ⟨rfl, hb1⟩; rw [h1]; have d0 := (hb1.cell (p := ⟨w.heap.size, 0, none⟩) lA).trans c0; have d1 := (hb1.cell (p := ⟨w.heap.size, 1, none⟩) lA).trans c1; have d2 := (hb1.cell (p := ⟨w.heap.size, 2, none⟩) lA).trans c2; have l1 := Nat.lt_of_lt_of_le lA hb1.size; have b1 := next hb hb1; have k1 := h.below b1)
    | (go_at_call 27; with_reducible refine (right_any 4096 lo m lc D _ k1).mono ?_; rintro e w2 ⟨rfl, hb2⟩; rw [e2]; have f0 := (hb2.cell (p := ⟨w.heap.size, 0, none⟩) l1).trans d0; have f1 := (hb2.cell (p := ⟨w.heap.size, 1, none⟩) l1).trans d1; have f2 := (hb2.cell (p := ⟨w.heap.size, 2, none⟩) l1).trans d2; have l2 := Nat.lt_of_lt_of_le l1 hb2.size; have b2 := next b1 hb2; have k2 := h.below b2)
    | (go_at_call 45; with_reducible refine (meets_any M F R lo m lc D _ hg k2).mono ?_; rintro e w3 ⟨rfl, hb3⟩; rw [h3]; have g2 := (hb3.cell (p := ⟨w.heap.size, 2, none⟩) l2).trans f2; have b3 := next b2 hb3))
  clear c0 c1 c2 d0 d1 d2 f0 f1 f2 g2 k1 k2 hb hb1 hb2 hb3 b1 b2 l1 l2 lA
  go_loopw [7, 30] (fun q t wr => ∃ (k : Nat) (bo : Option Addr) (c : Nat), k ≤ m ∧ t = .int .i64 k ∧ q = .slice bo (128 * k) c ∧ Own .u8 5 w.heap.size wr bo (128 * k) c (recsL (saysN D k)) ∧ Below w.heap.size w wr) (fun _ t _ => m - (RowKit.intOf t).toNat)
  case atStart => exact ⟨0, none, 0, Nat.zero_le _, rfl, rfl, own_nil _ _ _ _, b3⟩
  case round =>
    clear b3
    obtain ⟨k, bo, c, hk, rfl, rfl, hown, hbel⟩ := hrel
    by_cases hlt : k < m
    · obtain ⟨b1, o1, rfl, _, _⟩ := h.here (by omega)
      obtain ⟨x1, x2, ok⟩ := h.later hbel hlt
      have hki : (k : Int) < (m : Int) := by omega
      obtain ⟨q1, q2, q3⟩ := hmem k hlt
      have HS : Hid (recsL (saysN D (k + 1)) = recsL (saysN D k) ++ recL ((D k).line, (D k).bz)) := by rw [saysN_succ, recsL_snoc]; rfl
      have hbl : (D k).bl = 64 := by rw [← ok.bs.len]; exact q3
      obtain ⟨A, hA⟩ : ∃ A, A = D k := ⟨_, rfl⟩
      rw [← hA] at x1 x2 HS hbl q1 q2 ok
      have okbs := ok.bs
      rw [hbl] at x2 okbs
      generalize recsL (saysN D k) = Z at *
      clear hA h hmem ok hbl q3
      have hbA : Below wr.heap.size wr (wr.alloc (.cells #[.int .i64 A.line, .slice A.ba 64 A.bc] 49)) := (Below.refl _ _).alloc (Nat.le_refl _) _
      have sA := okbs.below hbA
      have oA := hown.below hbA
      have b2 := next hbel hbA
      have q12 : 0 ≤ A.line ∧ A.line ≤ 4096 := ⟨q1, by omega⟩
      have hn2 : 64 + 64 ≤ 140737488355328 := by omega
      have hn3 : 128 * k + (64 + 64) ≤ 140737488355328 := by omega
      have hsz := hbel.size
      clear hbel okbs hown
      go_wp2_with (first
        | (go_at_call 46; with_reducible refine (recordOf_any A.line A.ba 64 A.bc A.bz _ sA q12 hn2).mono ?_; rintro e w3 ⟨ro, rc, rfl, hrec, hb3⟩; have o3 := oA.below hb3; have b3 := next b2 hb3; have hsz3 := b3.size)
        | (at_builtin; refine append_sl rfl (.tmp 34) (.tmp 36) rfl w.heap.size _ (128 * k) _ rfl o3.row ro (64 + 64) rc (recL (A.line, A.bz)) rfl hrec.sl hn3 hsz3 ?_; intro bo' c' w' hown' hgrow _; have hb' := b3.grown hgrow hsz3 (fun b hb' => (o3.row.lt b hb').1)))
      go_roundw
      case rel => exact ⟨k + 1, bo', c', by omega, by go_num, by rw [show 128 * (k + 1) = 128 * k + (64 + 64) by omega], by rw [HS.out, show 128 * (k + 1) = 128 * k + (64 + 64) by omega]; exact hown', hb'⟩
      case measure => simp [RowKit.intOf]; omega
    · obtain rfl : k = m := by omega
      have hby := HB.out k (Nat.le_refl _)
      have hn5 : 128 * k ≤ 524288 := by omega
      have cM := markOf_any bo (128 * k) c _ wr hown.sl hby hn5
      clear h HB hmem
      go_wp2_with (go_at_call 47; with_reducible refine cM.mono ?_; rintro e w3 ⟨mo, mc, rfl, hmk, hb3⟩)
      go_ret3
      refine ⟨bo, c, mo, mc, rfl, hown.below hb3, hmk.mono hbel.size, fun c1 d1 e1 e2 he => ?_, next hbel hb3⟩
      have p1 := (own_at hown e1).2
      have p2 := (own_at hmk e2).1
      omega

theorem write_any (M F R : Int) (lo : Option Addr) (m lc : Nat) (D : Nat → ChD) (w : World) (hg : (Lg.mk M F R).Ok) (h : Chs w lo m D) :
    Calls Tryz.prog 28 #[.agg #[.int .i64 M, .int .i64 F, .int .i64 R], .slice lo m lc] w fun e w' => ∃ ao na ca bo nb cb, e = .returned (.tuple #[.slice ao na ca, .slice bo nb cb, .int .i64 (writeE ⟨M, F, R⟩ (saysN D m))]) ∧ Own .u8 5 w.heap.size w' ao na ca (writeA ⟨M, F, R⟩ (saysN D m)) ∧ Own .u8 5 w.heap.size w' bo nb cb (writeM ⟨M, F, R⟩ (saysN D m)) ∧ (∀ c d, ao = some c → bo = some d → c.block ≠ d.block) ∧ Below w.heap.size w w' := by
  have hm9 := h.fit
  have h4k : Rg 4096 := by unfold Rg; omega
  have hsl := saysN_length D m
  have hb := (Below.refl w.heap.size w).alloc (Nat.le_refl _) (.cells #[.int .i64 M, .int .i64 F, .int .i64 R] 24)
  have lA : w.heap.size < (w.alloc (.cells #[.int .i64 M, .int .i64 F, .int .i64 R] 24)).heap.size := by simp
  have c0 : (w.alloc (.cells #[.int .i64 M, .int .i64 F, .int .i64 R] 24)).cell? ⟨w.heap.size, 0, none⟩ = some (.int .i64 M) := by simp
  have c1 : (w.alloc (.cells #[.int .i64 M, .int .i64 F, .int .i64 R] 24)).cell? ⟨w.heap.size, 1, none⟩ = some (.int .i64 F) := by simp
  have c2 : (w.alloc (.cells #[.int .i64 M, .int .i64 F, .int .i64 R] 24)).cell? ⟨w.heap.size, 2, none⟩ = some (.int .i64 R) := by simp
  have bad : ∀ w', Below w.heap.size w w' → writeE ⟨M, F, R⟩ (saysN D m) ≠ 0 → ∀ E, writeE ⟨M, F, R⟩ (saysN D m) = E → ∃ ao na ca bo nb cb, Ending.returned (.tuple #[.slice none 0 0, .slice none 0 0, .int .i64 E]) = .returned (.tuple #[.slice ao na ca, .slice bo nb cb, .int .i64 (writeE ⟨M, F, R⟩ (saysN D m))]) ∧ Own .u8 5 w.heap.size w' ao na ca (writeA ⟨M, F, R⟩ (saysN D m)) ∧ Own .u8 5 w.heap.size w' bo nb cb (writeM ⟨M, F, R⟩ (saysN D m)) ∧ (∀ c d, ao = some c → bo = some d → c.block ≠ d.block) ∧ Below w.heap.size w w' := by
    intro w' hb' hne E hE
    refine ⟨none, 0, 0, none, 0, 0, by rw [hE], ?_, ?_, (fun c d e => by cases e), hb'⟩
    · unfold writeA; rw [if_neg hne]; exact own_nil _ _ _ _
    · unfold writeM; rw [if_neg hne]; exact own_nil _ _ _ _
  have e2 := rightB_eq 4096 D m
  cases h1 : rightG ⟨M, F, R⟩ 4096 with
  | false =>
    have hE : writeE ⟨M, F, R⟩ (saysN D m) = 1 := writeE_arg (by rw [h1]; rfl)
    have HE : Hid (writeE ⟨M, F, R⟩ (saysN D m) = 1) := hE
    have BAD := hid bad
    clear bad hE c0 c1 c2
    go_enter Tryz.func28, Tryz.ntmps28
    go_wp2_with (go_at_call 23; with_reducible refine (wright_any M F R 4096 _ hg h4k).mono ?_; rintro e w1 ⟨rfl, hb1⟩; rw [h1])
    go_ret3
    exact BAD.out _ (next hb hb1) (by rw [HE.out]; omega) _ HE.out
  | true =>
    cases h2 : rightL 4096 (saysN D m) with
    | false =>
      have hE : writeE ⟨M, F, R⟩ (saysN D m) = 1 := writeE_arg (by rw [h1, h2]; rfl)
      have HE : Hid (writeE ⟨M, F, R⟩ (saysN D m) = 1) := hE
      have BAD := hid bad
      rw [h2] at e2
      clear bad hE
      go_enter Tryz.func28, Tryz.ntmps28
      go_wp2_with (first
        | (go_at_call 23; with_reducible refine (wright_any M F R 4096 _ hg h4k).mono ?_; rintro e w1 ⟨rfl, hb1⟩; rw [h1]; have b1 := next hb hb1; have k1 := h.below b1)
        | (go_at_call 27; with_reducible refine (right_any 4096 lo m lc D _ k1).mono ?_; rintro e w2 ⟨rfl, hb2⟩; rw [e2]; have b2 := next b1 hb2))
      go_ret3
      exact BAD.out _ b2 (by rw [HE.out]; omega) _ HE.out
    | true =>
      cases h3 : meetsG ⟨M, F, R⟩ (saysN D m) with
      | true =>
        have hE : writeE ⟨M, F, R⟩ (saysN D m) = 1 := writeE_arg (by rw [h1, h2, h3]; rfl)
        have HE : Hid (writeE ⟨M, F, R⟩ (saysN D m) = 1) := hE
        have BAD := hid bad
        rw [h2] at e2
        clear bad hE
        go_enter Tryz.func28, Tryz.ntmps28
        go_wp2_with (first
          | (go_at_call 23; with_reducible refine (wright_any M F R 4096 _ hg h4k).mono ?_; rintro e w1 ⟨rfl, hb1⟩; rw [h1]; have d0 := (hb1.cell (p := ⟨w.heap.size, 0, none⟩) lA).trans c0; have d1 := (hb1.cell (p := ⟨w.heap.size, 1, none⟩) lA).trans c1; have d2 := (hb1.cell (p := ⟨w.heap.size, 2, none⟩) lA).trans c2; have l1 := Nat.lt_of_lt_of_le lA hb1.size; have b1 := next hb hb1; have k1 := h.below b1)
          | (go_at_call 27; with_reducible refine (right_any 4096 lo m lc D _ k1).mono ?_; rintro e w2 ⟨rfl, hb2⟩; rw [e2]; have f0 := (hb2.cell (p := ⟨w.heap.size, 0, none⟩) l1).trans d0; have f1 := (hb2.cell (p := ⟨w.heap.size, 1, none⟩) l1).trans d1; have f2 := (hb2.cell (p := ⟨w.heap.size, 2, none⟩) l1).trans d2; have b2 := next b1 hb2; have k2 := h.below b2)
          | (go_at_call 45; with_reducible refine (meets_any M F R lo m lc D _ hg k2).mono ?_; rintro e w3 ⟨rfl, hb3⟩; rw [h3]; have b3 := next b2 hb3))
        go_ret3
        exact BAD.out _ b3 (by rw [HE.out]; omega) _ HE.out
      | false =>
        by_cases h4 : R < (m : Int)
        · have hE : writeE ⟨M, F, R⟩ (saysN D m) = 6 := writeE_log (by rw [h1, h2, h3]; rfl) (by rw [hsl]; exact h4)
          have HE : Hid (writeE ⟨M, F, R⟩ (saysN D m) = 6) := hE
          have BAD := hid bad
          rw [h2] at e2
          clear bad hE
          go_enter Tryz.func28, Tryz.ntmps28
          go_wp2_with (first
            | (go_at_call 23; with_reducible refine (wright_any M F R 4096 _ hg h4k).mono ?_; rintro e w1 ⟨rfl, hb1⟩; rw [h1]; have d0 := (hb1.cell (p := ⟨w.heap.size, 0, none⟩) lA).trans c0; have d1 := (hb1.cell (p := ⟨w.heap.size, 1, none⟩) lA).trans c1; have d2 := (hb1.cell (p := ⟨w.heap.size, 2, none⟩) lA).trans c2; have l1 := Nat.lt_of_lt_of_le lA hb1.size; have b1 := next hb hb1; have k1 := h.below b1)
            | (go_at_call 27; with_reducible refine (right_any 4096 lo m lc D _ k1).mono ?_; rintro e w2 ⟨rfl, hb2⟩; rw [e2]; have f0 := (hb2.cell (p := ⟨w.heap.size, 0, none⟩) l1).trans d0; have f1 := (hb2.cell (p := ⟨w.heap.size, 1, none⟩) l1).trans d1; have f2 := (hb2.cell (p := ⟨w.heap.size, 2, none⟩) l1).trans d2; have l2 := Nat.lt_of_lt_of_le l1 hb2.size; have b2 := next b1 hb2; have k2 := h.below b2)
            | (go_at_call 45; with_reducible refine (meets_any M F R lo m lc D _ hg k2).mono ?_; rintro e w3 ⟨rfl, hb3⟩; rw [h3]; have g2 := (hb3.cell (p := ⟨w.heap.size, 2, none⟩) l2).trans f2; have b3 := next b2 hb3))
          go_ret3
          exact BAD.out _ b3 (by rw [HE.out]; omega) _ HE.out
        · have hE : writeE ⟨M, F, R⟩ (saysN D m) = 0 := writeE_ok (by rw [h1, h2, h3]; rfl) (by rw [hsl]; exact h4)
          have eA : writeA ⟨M, F, R⟩ (saysN D m) = recsL (saysN D m) := by unfold writeA; rw [if_pos hE]
          have eM : writeM ⟨M, F, R⟩ (saysN D m) = markL (recsL (saysN D m)) := by unfold writeM; rw [if_pos hE]
          rw [hE, eA, eM]
          exact (write_good M F R lo m lc D w hg h h1 h2 h3 h4).mono fun e w' ⟨ao, ca, bo, cb, a1, a2, a3, a4, a5⟩ => ⟨ao, _, ca, bo, _, cb, a1, a2, a3, a4, a5⟩
end Go.Proofs.YtgiippbjieecmaaGreat
