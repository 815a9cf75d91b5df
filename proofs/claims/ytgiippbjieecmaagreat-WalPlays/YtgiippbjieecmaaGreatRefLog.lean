/- The document's log: Right, Mine, foreign, mark, records, Write by their contracts. -/
import Derived.Test.YtgiippbjieecmaaGreatRefWR
import Derived.Test.YtgiippbjieecmaaGreatMgR
import Derived.Test.YtgiippbjieecmaaGreatRefSum
import Derived.Test.YtgiippbjieecmaaGreatRefRight
namespace Go.Proofs.YtgiippbjieecmaaGreat
set_option maxRecDepth 100000
open Go.RowKit
set_option linter.unusedVariables false

theorem foreign_any (M F R : Int) (lo : Option Addr) (m lc : Nat) (D : Nat → ChD) (w : World) (hg : (Lg.mk M F R).Ok) (h : Chs w lo m D) :
    Calls Tryz.prog 50 #[.agg #[.int .i64 M, .int .i64 F, .int .i64 R], .slice lo m lc] w fun e w' => e = .returned (.bool (!meetsG ⟨M, F, R⟩ (saysN D m))) ∧ Below w.heap.size w w' := by
  have hm9 := h.fit
  have hb0 := (Below.refl w.heap.size w).alloc (Nat.le_refl _) (.cells #[.int .i64 M, .int .i64 F, .int .i64 R] 24)
  have hL := logAt_new w M F R
  obtain ⟨wL, hwL⟩ : ∃ wL, wL = w.alloc (.cells #[.int .i64 M, .int .i64 F, .int .i64 R] 24) := ⟨_, rfl⟩
  rw [← hwL] at hb0 hL
  have hK := h.below hb0
  go_enter Tryz.func50, Tryz.ntmps50
  go_wp2
  rw [← hwL]
  clear hwL h
  go_loopw [5] (fun t wr => ∃ k : Nat, k ≤ m ∧ t = .int .i64 k ∧ Hid (meetsG ⟨M, F, R⟩ (saysN D k) = false) ∧ Below wL.heap.size wL wr) (fun t _ => m - (RowKit.intOf t).toNat)
  case atStart => exact ⟨0, Nat.zero_le _, rfl, hid rfl, Below.refl _ _⟩
  case round =>
    obtain ⟨k, hk, rfl, HK, hb⟩ := hrel
    by_cases hlt : k < m
    · obtain ⟨b1, o1, rfl, hlt1, _⟩ := hK.here (by omega)
      obtain ⟨x1, x2, ok⟩ := hK.later hb hlt
      have hki : (k : Int) < (m : Int) := by omega
      have hk0 : (0 : Int) ≤ (k : Int) := by omega
      have HT : Hid (mineG ⟨M, F, R⟩ (D k).line = false → meetsG ⟨M, F, R⟩ (saysN D (k + 1)) = false) := fun e => by
        have := HK.out
        unfold meetsG at this ⊢
        rw [saysN_succ, List.any_append, this]
        simpa [ChD.says] using e
      have HF : Hid (mineG ⟨M, F, R⟩ (D k).line = true → meetsG ⟨M, F, R⟩ (saysN D m) = true) := fun e => by
        unfold meetsG
        rw [List.any_eq_true]
        exact ⟨_, says_mem D hlt, e⟩
      have hrl := ok.r
      have hLr := hL.below hb
      obtain ⟨c0, c1, c2⟩ := And.intro hLr.c0 (And.intro hLr.c1 hLr.c2)
      obtain ⟨A, hA⟩ : ∃ A, A = D k := ⟨_, rfl⟩
      rw [← hA] at x1 x2 HT HF hrl
      have cM := refmine_any M F R A.line wr.drew hg hrl
      have HLR := hid hLr
      have HBB := hid hb
      have l1r : b1 < wr.heap.size := Nat.lt_of_lt_of_le hlt1 hb.size
      clear ok hA hL hLr hK hb
      cases hf : mineG ⟨M, F, R⟩ A.line
      · rw [hf] at cM
        go_wp2_with fail
        refine wp_region_held_drew (S := fun w' => w'.cell? ⟨w.heap.size, 0, none⟩ = some (.int .i64 M) ∧ w'.cell? ⟨w.heap.size, 1, none⟩ = some (.int .i64 F) ∧ w'.cell? ⟨w.heap.size, 2, none⟩ = some (.int .i64 R) ∧ w'.cell? ⟨b1, o1 + k * 2, none⟩ = some (.int .i64 A.line)) (by kernel_rfl) ⟨c0, c1, c2, x1⟩ (fun hH => ?_)
        refine wpAnyH_take (i := 0) (v := ?_) (List.getElem?_toArray.trans rfl) (by kernel_rfl) (by kernel_rfl) (by kernel_rfl) (fun _ _ _ h => h) (Or.inl ⟨by rfl, ?_⟩) (by assumption) ?_
        rotate_left
        · (intro w hSw; obtain ⟨h1, h2, h3, h4⟩ := hSw; go_simp; try (with_reducible rfl))
        simp only [Act.put, List.setIfInBounds_toArray, List.set_cons_zero, List.set_cons_succ]
        refine wpAnyH_take (i := 1) (v := ?_) (List.getElem?_toArray.trans rfl) (by kernel_rfl) (by kernel_rfl) (by kernel_rfl) (fun _ _ _ h => h) (Or.inl ⟨by rfl, ?_⟩) (by assumption) ?_
        rotate_left
        · (intro w hSw; obtain ⟨h1, h2, h3, h4⟩ := hSw; go_simp; try (with_reducible rfl))
        simp only [Act.put, List.setIfInBounds_toArray, List.set_cons_zero, List.set_cons_succ]
        refine wpAnyH_take (i := 2) (v := ?_) (List.getElem?_toArray.trans rfl) (by kernel_rfl) (by kernel_rfl) (by kernel_rfl) (fun _ _ _ h => h) (Or.inl ⟨by rfl, ?_⟩) (by assumption) ?_
        rotate_left
        · (intro w hSw; obtain ⟨h1, h2, h3, h4⟩ := hSw; go_simp; try (with_reducible rfl))
        simp only [Act.put, List.setIfInBounds_toArray, List.set_cons_zero, List.set_cons_succ]
        refine wpAnyH_take (i := 3) (v := ?_) (List.getElem?_toArray.trans rfl) (by kernel_rfl) (by kernel_rfl) (by kernel_rfl) (fun _ _ _ h => h) (Or.inl ⟨by rfl, ?_⟩) (by assumption) ?_
        rotate_left
        · (intro w hSw; obtain ⟨h1, h2, h3, h4⟩ := hSw; go_simp; try (with_reducible rfl))
        simp only [Act.put, List.setIfInBounds_toArray, List.set_cons_zero, List.set_cons_succ]
        refine wpAnyH_take (i := 4) (v := ?_) (List.getElem?_toArray.trans rfl) (by kernel_rfl) (by kernel_rfl) (by kernel_rfl) (fun _ _ _ h => h) (Or.inl ⟨by rfl, ?_⟩) (by assumption) ?_
        rotate_left
        · (intro w hSw; obtain ⟨h1, h2, h3, h4⟩ := hSw; go_simp; try (with_reducible rfl))
        simp only [Act.put, List.setIfInBounds_toArray, List.set_cons_zero, List.set_cons_succ]
        refine wpAnyH_take (i := 5) (v := ?_) (List.getElem?_toArray.trans rfl) (by kernel_rfl) (by kernel_rfl) (by kernel_rfl) (fun _ _ _ h => h) (Or.inl ⟨by rfl, ?_⟩) (by assumption) ?_
        rotate_left
        · (intro w hSw; obtain ⟨h1, h2, h3, h4⟩ := hSw; go_simp; try (with_reducible rfl))
        simp only [Act.put, List.setIfInBounds_toArray, List.set_cons_zero, List.set_cons_succ]
        refine wpAnyH_ready (rs := [6]) (by kernel_rfl) (by simp) ?_
        refine AllReadyH.cons (List.getElem?_toArray.trans rfl) (fun K3 hK3 => ?_) AllReadyH.nil
        go_simp
        refine (cM).mono ?_
        rintro e w3 ⟨rfl, hb3⟩
        have hL3 := HLR.out.below (w' := w3) (next (below_drew (Below.refl _ _)) hb3)
        have x3 := (hb3.cell (p := ⟨b1, o1 + k * 2, none⟩) l1r).trans x1
        dsimp only
        refine hK3.out _ _ ⟨hL3.c0, hL3.c1, hL3.c2, x3⟩ (fun hHeld3 => ?_)
        clear hK3 K3
        refine wpAnyH_done (by kernel_rfl) ?_ _
        go_wp2
        go_roundw
        case rel => exact ⟨k + 1, by omega, by go_num, hid (HT.out hf), HBB.out.trans ((below_drew (Below.refl _ _)).mono HBB.out.size |>.trans (hb3.mono (Nat.le_trans HBB.out.size (Nat.le_refl _))))⟩
        case measure => simp [RowKit.intOf]; omega
      · rw [hf] at cM
        go_wp2_with fail
        refine wp_region_held_drew (S := fun w' => w'.cell? ⟨w.heap.size, 0, none⟩ = some (.int .i64 M) ∧ w'.cell? ⟨w.heap.size, 1, none⟩ = some (.int .i64 F) ∧ w'.cell? ⟨w.heap.size, 2, none⟩ = some (.int .i64 R) ∧ w'.cell? ⟨b1, o1 + k * 2, none⟩ = some (.int .i64 A.line)) (by kernel_rfl) ⟨c0, c1, c2, x1⟩ (fun hH => ?_)
        refine wpAnyH_take (i := 0) (v := ?_) (List.getElem?_toArray.trans rfl) (by kernel_rfl) (by kernel_rfl) (by kernel_rfl) (fun _ _ _ h => h) (Or.inl ⟨by rfl, ?_⟩) (by assumption) ?_
        rotate_left
        · (intro w hSw; obtain ⟨h1, h2, h3, h4⟩ := hSw; go_simp; try (with_reducible rfl))
        simp only [Act.put, List.setIfInBounds_toArray, List.set_cons_zero, List.set_cons_succ]
        refine wpAnyH_take (i := 1) (v := ?_) (List.getElem?_toArray.trans rfl) (by kernel_rfl) (by kernel_rfl) (by kernel_rfl) (fun _ _ _ h => h) (Or.inl ⟨by rfl, ?_⟩) (by assumption) ?_
        rotate_left
        · (intro w hSw; obtain ⟨h1, h2, h3, h4⟩ := hSw; go_simp; try (with_reducible rfl))
        simp only [Act.put, List.setIfInBounds_toArray, List.set_cons_zero, List.set_cons_succ]
        refine wpAnyH_take (i := 2) (v := ?_) (List.getElem?_toArray.trans rfl) (by kernel_rfl) (by kernel_rfl) (by kernel_rfl) (fun _ _ _ h => h) (Or.inl ⟨by rfl, ?_⟩) (by assumption) ?_
        rotate_left
        · (intro w hSw; obtain ⟨h1, h2, h3, h4⟩ := hSw; go_simp; try (with_reducible rfl))
        simp only [Act.put, List.setIfInBounds_toArray, List.set_cons_zero, List.set_cons_succ]
        refine wpAnyH_take (i := 3) (v := ?_) (List.getElem?_toArray.trans rfl) (by kernel_rfl) (by kernel_rfl) (by kernel_rfl) (fun _ _ _ h => h) (Or.inl ⟨by rfl, ?_⟩) (by assumption) ?_
        rotate_left
        · (intro w hSw; obtain ⟨h1, h2, h3, h4⟩ := hSw; go_simp; try (with_reducible rfl))
        simp only [Act.put, List.setIfInBounds_toArray, List.set_cons_zero, List.set_cons_succ]
        refine wpAnyH_take (i := 4) (v := ?_) (List.getElem?_toArray.trans rfl) (by kernel_rfl) (by kernel_rfl) (by kernel_rfl) (fun _ _ _ h => h) (Or.inl ⟨by rfl, ?_⟩) (by assumption) ?_
        rotate_left
        · (intro w hSw; obtain ⟨h1, h2, h3, h4⟩ := hSw; go_simp; try (with_reducible rfl))
        simp only [Act.put, List.setIfInBounds_toArray, List.set_cons_zero, List.set_cons_succ]
        refine wpAnyH_take (i := 5) (v := ?_) (List.getElem?_toArray.trans rfl) (by kernel_rfl) (by kernel_rfl) (by kernel_rfl) (fun _ _ _ h => h) (Or.inl ⟨by rfl, ?_⟩) (by assumption) ?_
        rotate_left
        · (intro w hSw; obtain ⟨h1, h2, h3, h4⟩ := hSw; go_simp; try (with_reducible rfl))
        simp only [Act.put, List.setIfInBounds_toArray, List.set_cons_zero, List.set_cons_succ]
        refine wpAnyH_ready (rs := [6]) (by kernel_rfl) (by simp) ?_
        refine AllReadyH.cons (List.getElem?_toArray.trans rfl) (fun K3 hK3 => ?_) AllReadyH.nil
        go_simp
        refine (cM).mono ?_
        rintro e w3 ⟨rfl, hb3⟩
        have hL3 := HLR.out.below (w' := w3) (next (below_drew (Below.refl _ _)) hb3)
        have x3 := (hb3.cell (p := ⟨b1, o1 + k * 2, none⟩) l1r).trans x1
        dsimp only
        refine hK3.out _ _ ⟨hL3.c0, hL3.c1, hL3.c2, x3⟩ (fun hHeld3 => ?_)
        clear hK3 K3
        refine wpAnyH_done (by kernel_rfl) ?_ _
        go_wp2
        go_ret
        exact ⟨by rw [HF.out hf]; rfl, hb0.trans ((HBB.out.trans ((below_drew (Below.refl _ _)).mono HBB.out.size |>.trans (hb3.mono (Nat.le_trans HBB.out.size (Nat.le_refl _))))).mono hb0.size)⟩
    · obtain rfl : k = m := by omega
      go_wp2
      go_ret
      exact ⟨by rw [HK.out]; rfl, next hb0 hb⟩

theorem Sl.upto {k : IntKind} {B : Nat} {w w' : World} {ao : Option Addr} {n cap : Nat} {zs : List Int} (h : Sl k w ao n cap zs) (hb : Below B w w') (hl : 0 < n → ∀ c, ao = some c → c.block < B) : Sl k w' ao n cap zs :=
  h.off (F := fun j => B ≤ j) ⟨hb.os, hb.tape, hb.output, hb.size, fun k _ hn => hb.block k (by omega)⟩ (fun hn c hc hf => by have := hl hn c hc; omega)
/-- 'append(out, b...)' of bytes, at a step of a region that draws its order. -/
theorem step_app {ops : Array Oper} {o : Oper} {a : Act} {Q0 : Act → World → Prop} {Q : Exit → Act → World → Prop} {E : Prop} {w : World} (hgd : o.guard = none) (sx x : Operand)
    (ho : o.op = .call { callee := .builtin .append, args := #[sx, x], argTypes := #[22, 22] }) {B n cap b off m c : Nat} {ao : Option Addr} {zs ys : List Int} (hown : Own .u8 5 B w ao n cap zs) (hs : a.eval sx = .slice ao n cap) (hsl : Sl .u8 w (some ⟨b, off, none⟩) m c ys) (hx : a.eval x = .slice (some ⟨b, off, none⟩) m c)
    (hm : 0 < m) (hn : n + m ≤ 140737488355328) (hB : B ≤ w.heap.size)
    (h : ∀ g cap' w1, Own .u8 5 B w1 (some ⟨g, 0, none⟩) (n + m) cap' (zs ++ ys) → Below B w w1 → Q0 (a.put o.dst (.slice (some ⟨g, 0, none⟩) (n + m) cap')) w1) :
    if Region.wanted o (yielded ops a.tmps) = true then Oper.wp Tryz.prog o a w Q0 Q else E := by
  obtain ⟨i0, hi0, hz0, hz1, hz2⟩ := info_parts Tryz.info5
  have hlen := hsl.len
  have hz := hown.len
  refine step_append_lies _ hgd sx x 22 ho B 5 i0 _ 1 1 Tryz.underlying22 hi0 hz0 hz1 hz2 rfl (by omega) (.slice ao n cap) n _ hs hown.row ⟨b, off, none⟩ m c (ys.map (Value.int .u8)) hx (by simp [hlen]) (fun j u hu => ?_) (fun u hu => ?_) hm (by unfold maxLen; omega) (by omega) hB _ rfl ?_
  · obtain ⟨b', off', e, _, hc⟩ := hsl.here hm
    cases e
    have hj : j < ys.length := by simpa using (List.getElem?_eq_some_iff.1 hu).1
    rw [Addr.add_lit, hc j (by omega)]
    rw [List.getElem?_map, List.getElem?_eq_getElem hj] at hu
    simp only [Option.map_some, Option.some.injEq] at hu
    subst hu
    simp [List.getD, List.getElem?_eq_getElem hj]
  · rw [List.mem_map] at hu
    obtain ⟨z, _, rfl⟩ := hu
    rfl
  · intro g cap' w1 hown1 hgrow hat hlt
    refine h g cap' w1 ⟨by rw [List.length_append, hz, hlen], by rw [List.map_append]; exact hown1⟩ ?_
    exact (Below.refl B w).grown hgrow hB (fun k hk => by
      rcases hown.row.2 with ⟨hv, h0⟩ | ⟨g', cap'', cur, hv, hg, hh, _⟩
      · rw [hv] at hk; simp [Value.ownBlock] at hk
      · rw [hv] at hk; simp only [Value.ownBlock, Option.some.injEq] at hk; omega)
theorem refof_eight (ao : Option Addr) (cap : Nat) (x y : Int) (w : World) (h : Sl .i64 w ao 8 cap [x, y, 0, 0, 0, 0, 0, 0]) (hk : okL [x, y, 0, 0, 0, 0, 0, 0] = true) :
    Calls Tryz.prog 75 #[.slice ao 8 cap] w fun e w' => ∃ g c, e = .returned (.tuple #[.slice (some ⟨g, 0, none⟩) 64 c, .int .i64 0]) ∧ Own .u8 5 w.heap.size w' (some ⟨g, 0, none⟩) 64 c (ofL [x, y, 0, 0, 0, 0, 0, 0]) ∧ Below w.heap.size w w' := by
  refine (refof_any ao 8 cap _ w h (by omega)).mono ?_
  rintro e w' ⟨bo, m, c, rfl, hown, hbel⟩
  rw [ofR_t hk] at hown
  rw [ofE_t hk]
  obtain rfl : m = 64 := by rw [← hown.len, ofL_length]; rfl
  obtain ⟨g, c', e⟩ := own_shape hown.row (by omega)
  simp only [Value.slice.injEq] at e
  obtain ⟨rfl, _, rfl⟩ := e
  exact ⟨g, c, rfl, hown, hbel⟩

theorem refmark_any (k : Nat) (ao : Option Addr) (n cap : Nat) (zs : List Int) (w : World) (hs : Sl .u8 w ao n cap zs) (hb : Bytes zs) (hn : n ≤ 524288) (hk : n = 128 * k) :
    Calls Tryz.prog 52 #[.int .i64 (k : Int), .slice ao n cap] w fun e w' => ∃ g c, e = .returned (.slice (some ⟨g, 0, none⟩) 64 c) ∧ Own .u8 5 w.heap.size w' (some ⟨g, 0, none⟩) 64 c (markL zs) ∧ Below w.heap.size w w' := by
  have hlen := hs.len
  have hlt := sumN_lt (s := 0) (by omega) hb
  have hok : okL [(k : Int), (sumN 0 zs : Nat), 0, 0, 0, 0, 0, 0] = true := okL_mark (by omega) hlt
  have hM : markL zs = ofL [(k : Int), (sumN 0 zs : Nat), 0, 0, 0, 0, 0, 0] := by unfold markL markN; rw [hlen, hk, Nat.mul_div_cancel_left _ (by omega)]
  rw [hM]
  clear hM hlt
  have h1 := sl_eight w (k : Int) (sumN 0 zs : Nat)
  have b1 := (Below.refl w.heap.size w).alloc (Nat.le_refl _) (.cells #[.int .i64 (k : Int), .int .i64 (sumN 0 zs : Nat), .int .i64 0, .int .i64 0, .int .i64 0, .int .i64 0, .int .i64 0, .int .i64 0] 3)
  have hn0 : n ≤ 140737488355328 := by omega
  have cS := refsum_any ao n cap zs w hs hb hn0
  by_cases h0 : k = 0
  · have hz : sumN 0 zs = 0 := by
      have : zs = [] := List.eq_nil_of_length_eq_zero (by omega)
      rw [this, sumN_nil]
    rw [hz] at h1 b1 hok ⊢
    subst h0
    clear cS hlen hs hb hn0 hn hk hz
    go_enter Tryz.func52, Tryz.ntmps52
    go_wp2_with (go_at_call 75; refine (refof_eight _ _ 0 0 _ h1 hok).mono ?_; rintro e w2 ⟨g, c, rfl, hown, hbel⟩)
    go_ret
    exact ⟨g, c, rfl, hown.mono b1.size, next b1 hbel⟩
  · have h0' : (0 : Int) < (k : Int) := by omega
    clear hk hn hlen hs hb hn0
    generalize sumN 0 zs = s at *
    go_enter Tryz.func52, Tryz.ntmps52
    go_wp2_with (first
      | (go_at_call 76; with_reducible refine cS.mono ?_; rintro e w' ⟨rfl, rfl⟩)
      | (go_at_call 75; refine (refof_eight _ _ k s _ h1 hok).mono ?_; rintro e w2 ⟨g, c, rfl, hown, hbel⟩))
    go_ret
    exact ⟨g, c, rfl, hown.mono b1.size, next b1 hbel⟩

set_option maxHeartbeats 1600000 in
theorem records_any (lo : Option Addr) (m lc : Nat) (D : Nat → ChD) (w : World) (h : Chs w lo m D) (hm : m ≤ 4096) (hmem : ∀ k, k < m → 0 ≤ (D k).line ∧ (D k).line ≤ 4096 ∧ (D k).bz.length = 64) :
    Calls Tryz.prog 51 #[.slice lo m lc] w fun e w' => ∃ ao ca, e = .returned (.slice ao (128 * m) ca) ∧ Own .u8 5 w.heap.size w' ao (128 * m) ca (recsL (saysN D m)) ∧ Below w.heap.size w w' := by
  have hm9 := h.fit
  go_enter Tryz.func51, Tryz.ntmps51
  go_wp2
  go_loopw [3, 4] (fun q t wr => ∃ (k : Nat) (bo : Option Addr) (c : Nat), k ≤ m ∧ t = .int .i64 k ∧ q = .slice bo (128 * k) c ∧ Own .u8 5 w.heap.size wr bo (128 * k) c (recsL (saysN D k)) ∧ Below w.heap.size w wr) (fun _ t _ => m - (RowKit.intOf t).toNat)
  case atStart => exact ⟨0, none, 0, Nat.zero_le _, rfl, rfl, own_nil _ _ _ _, Below.refl _ _⟩
  case round =>
    obtain ⟨k, bo, c, hk, rfl, rfl, hown, hbel⟩ := hrel
    by_cases hlt : k < m
    · obtain ⟨b1, o1, rfl, hl1, _⟩ := h.here (by omega)
      obtain ⟨x1, x2, ok⟩ := h.later hbel hlt
      have hki : (k : Int) < (m : Int) := by omega
      have hk0 : (0 : Int) ≤ (k : Int) := by omega
      obtain ⟨q1, q2, q3⟩ := hmem k hlt
      have HS : Hid (recsL (saysN D (k + 1)) = (recsL (saysN D k) ++ ofL [(D k).line, 0, 0, 0, 0, 0, 0, 0]) ++ (D k).bz) := by rw [saysN_succ, recsL_snoc, List.append_assoc]; rfl
      have hbl : (D k).bl = 64 := by rw [← ok.bs.len]; exact q3
      obtain ⟨A, hA⟩ : ∃ A, A = D k := ⟨_, rfl⟩
      rw [← hA] at x1 x2 HS hbl q1 q2 ok
      have okbs := ok.bs
      rw [hbl] at x2 okbs
      obtain ⟨b2, o2, e2, hl2', _⟩ := okbs.here (by omega)
      have hl2 : 0 < 64 → ∀ c, A.ba = some c → c.block < w.heap.size := fun hp c hc => by rw [hA] at hc hbl; exact (h.ok k hlt).bs.block_lt (by omega) hc
      rw [e2] at x2 okbs hl2
      generalize recsL (saysN D k) = Z at *
      have hok := okL_rec ⟨q1, q2⟩
      have h8 := sl_eight wr A.line 0
      have hbA : Below wr.heap.size wr (wr.alloc (.cells #[.int .i64 A.line, .int .i64 0, .int .i64 0, .int .i64 0, .int .i64 0, .int .i64 0, .int .i64 0, .int .i64 0] 3)) := (Below.refl _ _).alloc (Nat.le_refl _) _
      have HA := hid (And.intro hown (And.intro okbs (And.intro hbel hbA)))
      have hlr : b1 < wr.heap.size := Nat.lt_of_lt_of_le hl1 hbel.size
      clear hA h hmem ok hbl q3 hown okbs hbel hbA e2
      go_wp2_with (go_at_call 75; refine (refof_eight _ _ A.line 0 _ h8 hok).mono ?_; rintro e w3 ⟨g3, c3, rfl, o3, hb3⟩; have hb13 := next HA.out.2.2.2 hb3; have y2 := (hb13.cell (p := ⟨b1, o1 + k * 2 + 1, none⟩) hlr).trans x2)
      have hW := next HA.out.2.2.1 hb13
      have oD := (HA.out.1.below hb13).below (below_drew (Below.refl _ _))
      have sD := (o3.below (below_drew (Below.refl _ _))).sl
      have kD := (HA.out.2.1.below hb13).below (below_drew (Below.refl _ _))
      have hWD := next hW (below_drew (Below.refl _ _))
      have HX := hid (And.intro oD (And.intro sD (And.intro kD hWD)))
      have hn2 : 128 * k + 64 ≤ 140737488355328 := by omega
      have hn3 : 128 * k + 64 + 64 ≤ 140737488355328 := by omega
      clear oD sD kD hWD hW o3 hb3 hb13 HA h8 x1 x2
      refine wp_region_held_drew (S := fun w' => w'.cell? ⟨b1, o1 + k * 2 + 1, none⟩ = some (.slice (some ⟨b2, o2, none⟩) 64 A.bc)) (by kernel_rfl) y2 (fun hH => ?_)
      refine wpAnyH_take (i := 0) (v := ?_) (List.getElem?_toArray.trans rfl) (by kernel_rfl) (by kernel_rfl) (by kernel_rfl) (fun _ _ _ h => h) (Or.inl ⟨by rfl, ?_⟩) (by assumption) ?_
      rotate_left
      · (intro w hSw; (try dsimp only at hSw); go_simp; try (with_reducible rfl))
      simp only [Act.put, List.setIfInBounds_toArray, List.set_cons_zero, List.set_cons_succ]
      refine wpAnyH_take (i := 1) (v := ?_) (List.getElem?_toArray.trans rfl) (by kernel_rfl) (by kernel_rfl) (by kernel_rfl) (fun _ _ _ h => h) (Or.inl ⟨by rfl, ?_⟩) (by assumption) ?_
      rotate_left
      · (intro w hSw; (try dsimp only at hSw); go_simp; try (with_reducible rfl))
      simp only [Act.put, List.setIfInBounds_toArray, List.set_cons_zero, List.set_cons_succ]
      refine wpAnyH_take (i := 3) (v := ?_) (List.getElem?_toArray.trans rfl) (by kernel_rfl) (by kernel_rfl) (by kernel_rfl) (fun _ _ _ h => h) (Or.inl ⟨by rfl, ?_⟩) (by assumption) ?_
      rotate_left
      · (intro w hSw; (try dsimp only at hSw); go_simp; try (with_reducible rfl))
      simp only [Act.put, List.setIfInBounds_toArray, List.set_cons_zero, List.set_cons_succ]
      refine wpAnyH_take (i := 4) (v := ?_) (List.getElem?_toArray.trans rfl) (by kernel_rfl) (by kernel_rfl) (by kernel_rfl) (fun _ _ _ h => h) (Or.inl ⟨by rfl, ?_⟩) (by assumption) ?_
      rotate_left
      · (intro w hSw; (try dsimp only at hSw); go_simp; try (with_reducible rfl))
      simp only [Act.put, List.setIfInBounds_toArray, List.set_cons_zero, List.set_cons_succ]
      refine wpAnyH_take (i := 5) (v := ?_) (List.getElem?_toArray.trans rfl) (by kernel_rfl) (by kernel_rfl) (by kernel_rfl) (fun _ _ _ h => h) (Or.inl ⟨by rfl, ?_⟩) (by assumption) ?_
      rotate_left
      · (intro w hSw; (try dsimp only at hSw); go_simp; try (with_reducible rfl))
      simp only [Act.put, List.setIfInBounds_toArray, List.set_cons_zero, List.set_cons_succ]
      refine wpAnyH_take (i := 6) (v := ?_) (List.getElem?_toArray.trans rfl) (by kernel_rfl) (by kernel_rfl) (by kernel_rfl) (fun _ _ _ h => h) (Or.inl ⟨by rfl, ?_⟩) (by assumption) ?_
      rotate_left
      · (intro w hSw; (try dsimp only at hSw); go_simp; try (with_reducible rfl))
      simp only [Act.put, List.setIfInBounds_toArray, List.set_cons_zero, List.set_cons_succ]
      refine wpAnyH_take (i := 7) (v := ?_) (List.getElem?_toArray.trans rfl) (by kernel_rfl) (by kernel_rfl) (by kernel_rfl) (fun _ _ _ h => h) (Or.inl ⟨by rfl, ?_⟩) (by assumption) ?_
      rotate_left
      · (intro w hSw; (try dsimp only at hSw); go_simp; try (with_reducible rfl))
      simp only [Act.put, List.setIfInBounds_toArray, List.set_cons_zero, List.set_cons_succ]
      refine wpAnyH_ready (rs := [2]) (by kernel_rfl) (by simp) ?_
      refine AllReadyH.cons (List.getElem?_toArray.trans rfl) (fun K3 hK3 => ?_) AllReadyH.nil
      refine step_app (by rfl) (.tmp 23) (.tmp 24) (by rfl) HX.out.1 (by rfl) HX.out.2.1 (by rfl) (by omega) hn2 HX.out.2.2.2.size ?_
      intro g4 c4 w4 o4 hb4
      have y4 := (hb4.cell (p := ⟨b1, o1 + k * 2 + 1, none⟩) hl1).trans y2
      refine hK3.out _ _ y4 (fun hHeld3 => ?_)
      clear hK3 K3
      simp only [Act.put, List.setIfInBounds_toArray, List.set_cons_zero, List.set_cons_succ]
      refine wpAnyH_ready (rs := [8]) (by kernel_rfl) (by simp) ?_
      refine AllReadyH.cons (List.getElem?_toArray.trans rfl) (fun K4 hK4 => ?_) AllReadyH.nil
      have s4 : Sl .u8 w4 (some ⟨b2, o2, none⟩) 64 A.bc A.bz := HX.out.2.2.1.upto hb4 hl2
      refine step_app (by rfl) (.tmp 25) (.tmp 30) (by rfl) o4 (by rfl) s4 (by rfl) (by omega) hn3 (HX.out.2.2.2.trans hb4).size ?_
      intro g5 c5 w5 o5 hb5
      have y5 := (hb5.cell (p := ⟨b1, o1 + k * 2 + 1, none⟩) hl1).trans y4
      refine hK4.out _ _ y5 (fun hHeld4 => ?_)
      clear hK4 K4
      simp only [Act.put, List.setIfInBounds_toArray, List.set_cons_zero, List.set_cons_succ]
      refine wpAnyH_ready (rs := [9]) (by kernel_rfl) (by simp) ?_
      refine AllReadyH.cons (List.getElem?_toArray.trans rfl) (fun K3 hK3 => ?_) AllReadyH.nil
      go_simp
      refine hK3.out _ _ y5 (fun hHeld5 => ?_)
      clear hK3 K3
      refine wpAnyH_done (by kernel_rfl) ?_ _
      have HB5 := hid ((HX.out.2.2.2.trans hb4).trans hb5)
      have HO5 := hid o5
      clear o5 o4 hb4 hb5 s4 HX
      go_wp2
      go_roundw
      case rel => exact ⟨k + 1, _, c5, by omega, by go_num, by rw [show 128 * (k + 1) = 128 * k + 64 + 64 by omega], by rw [HS.out, show 128 * (k + 1) = 128 * k + 64 + 64 by omega]; exact HO5.out, HB5.out⟩
      case measure => simp [RowKit.intOf]; omega
    · obtain rfl : k = m := by omega
      go_wp2
      go_ret
      exact ⟨bo, c, rfl, hown, hbel⟩
theorem refwrite_any (M F R : Int) (lo : Option Addr) (m lc : Nat) (D : Nat → ChD) (w : World) (hg : (Lg.mk M F R).Ok) (h : Chs w lo m D) :
    Calls Tryz.prog 35 #[.agg #[.int .i64 M, .int .i64 F, .int .i64 R], .slice lo m lc] w fun e w' => ∃ ao na ca bo nb cb, e = .returned (.tuple #[.slice ao na ca, .slice bo nb cb, .int .i64 (writeE ⟨M, F, R⟩ (saysN D m))]) ∧ Own .u8 5 w.heap.size w' ao na ca (writeA ⟨M, F, R⟩ (saysN D m)) ∧ Own .u8 5 w.heap.size w' bo nb cb (writeM ⟨M, F, R⟩ (saysN D m)) ∧ (∀ c d, ao = some c → bo = some d → c.block ≠ d.block) ∧ Below w.heap.size w w' := by
  have hm9 := h.fit
  have h4k : Rg 4096 := by unfold Rg; omega
  have hsl := saysN_length D m
  have hb := (Below.refl w.heap.size w).alloc (Nat.le_refl _) (.cells #[.int .i64 M, .int .i64 F, .int .i64 R] 24)
  have lA : w.heap.size < (w.alloc (.cells #[.int .i64 M, .int .i64 F, .int .i64 R] 24)).heap.size := by simp
  have c0 : (w.alloc (.cells #[.int .i64 M, .int .i64 F, .int .i64 R] 24)).cell? ⟨w.heap.size, 0, none⟩ = some (.int .i64 M) := by simp
  have c1 : (w.alloc (.cells #[.int .i64 M, .int .i64 F, .int .i64 R] 24)).cell? ⟨w.heap.size, 1, none⟩ = some (.int .i64 F) := by simp
  have c2 : (w.alloc (.cells #[.int .i64 M, .int .i64 F, .int .i64 R] 24)).cell? ⟨w.heap.size, 2, none⟩ = some (.int .i64 R) := by simp
  have bad : ∀ w', Below w.heap.size w w' → writeE ⟨M, F, R⟩ (saysN D m) ≠ 0 → ∀ E, writeE ⟨M, F, R⟩ (saysN D m) = E → ∃ ao na ca bo nb cb, Ending.returned (.tuple #[.slice none 0 0, .slice none 0 0, .int .i64 E]) = .returned (.tuple #[.slice ao na ca, .slice bo nb cb, .int .i64 (writeE ⟨M, F, R⟩ (saysN D m))]) ∧ Own .u8 5 w.heap.size w' ao na ca (writeA ⟨M, F, R⟩ (saysN D m)) ∧ Own .u8 5 w.heap.size w' bo nb cb (writeM ⟨M, F, R⟩ (saysN D m)) ∧ (∀ c d, ao = some c → bo = some d → c.block ≠ d.block) ∧ Below w.heap.size w w' := by
    intro w' hb' hne E hE
    refine ⟨none, 0, 0, none, 0, 0, by rw [hE], ?_, ?_, (fun c d e => by cases e), hb'⟩
    · unfold writeA; rw [if_neg hne]; exact own_nil _ _ _ _
    · unfold writeM; rw [if_neg hne]; exact own_nil _ _ _ _
  have e2 := rightB_eq 4096 D m
  cases h1 : rightG ⟨M, F, R⟩ 4096 with
  | false =>
    have hE : writeE ⟨M, F, R⟩ (saysN D m) = 1 := writeE_arg (by rw [h1]; rfl)
    have HE : Hid (writeE ⟨M, F, R⟩ (saysN D m) = 1) := hE
    have BAD := hid bad
    clear bad hE c0 c1 c2
    go_enter Tryz.func35, Tryz.ntmps35
    go_wp2_with (go_at_call 32; with_reducible refine (refwright_any M F R 4096 _ hg h4k).mono ?_; rintro e w1 ⟨rfl, hb1⟩; rw [h1])
    go_ret3
    exact BAD.out _ (next hb hb1) (by rw [HE.out]; omega) _ HE.out
  | true =>
    cases h2 : rightL 4096 (saysN D m) with
    | false =>
      have hE : writeE ⟨M, F, R⟩ (saysN D m) = 1 := writeE_arg (by rw [h1, h2]; rfl)
      have HE : Hid (writeE ⟨M, F, R⟩ (saysN D m) = 1) := hE
      have BAD := hid bad
      rw [h2] at e2
      clear bad hE
      go_enter Tryz.func35, Tryz.ntmps35
      go_wp2_with (first
        | (go_at_call 32; with_reducible refine (refwright_any M F R 4096 _ hg h4k).mono ?_; rintro e w1 ⟨rfl, hb1⟩; rw [h1]; have b1 := next hb hb1; have k1 := h.below b1)
        | (go_at_call 34; with_reducible refine (refright_any 4096 lo m lc D _ k1).mono ?_; rintro e w2 ⟨rfl, hb2⟩; rw [e2]; have b2 := next b1 hb2))
      go_ret3
      exact BAD.out _ b2 (by rw [HE.out]; omega) _ HE.out
    | true =>
      cases h3 : meetsG ⟨M, F, R⟩ (saysN D m) with
      | true =>
        have hE : writeE ⟨M, F, R⟩ (saysN D m) = 1 := writeE_arg (by rw [h1, h2, h3]; rfl)
        have HE : Hid (writeE ⟨M, F, R⟩ (saysN D m) = 1) := hE
        have BAD := hid bad
        rw [h2] at e2
        clear bad hE
        go_enter Tryz.func35, Tryz.ntmps35
        go_wp2_with (first
          | (go_at_call 32; with_reducible refine (refwright_any M F R 4096 _ hg h4k).mono ?_; rintro e w1 ⟨rfl, hb1⟩; rw [h1]; have d0 := (hb1.cell (p := ⟨w.heap.size, 0, none⟩) lA).trans c0; have d1 := (hb1.cell (p := ⟨w.heap.size, 1, none⟩) lA).trans c1; have d2 := (hb1.cell (p := ⟨w.heap.size, 2, none⟩) lA).trans c2; have l1 := Nat.lt_of_lt_of_le lA hb1.size; have b1 := next hb hb1; have k1 := h.below b1)
          | (go_at_call 34; with_reducible refine (refright_any 4096 lo m lc D _ k1).mono ?_; rintro e w2 ⟨rfl, hb2⟩; rw [e2]; have f0 := (hb2.cell (p := ⟨w.heap.size, 0, none⟩) l1).trans d0; have f1 := (hb2.cell (p := ⟨w.heap.size, 1, none⟩) l1).trans d1; have f2 := (hb2.cell (p := ⟨w.heap.size, 2, none⟩) l1).trans d2; have b2 := next b1 hb2; have k2 := h.below b2)
          | (go_at_call 50; with_reducible refine (foreign_any M F R lo m lc D _ hg k2).mono ?_; rintro e w3 ⟨rfl, hb3⟩; rw [h3]; have b3 := next b2 hb3))
        go_ret3
        exact BAD.out _ b3 (by rw [HE.out]; omega) _ HE.out
      | false =>
        by_cases h4 : R < (m : Int)
        · have hE : writeE ⟨M, F, R⟩ (saysN D m) = 6 := writeE_log (by rw [h1, h2, h3]; rfl) (by rw [hsl]; exact h4)
          have HE : Hid (writeE ⟨M, F, R⟩ (saysN D m) = 6) := hE
          have BAD := hid bad
          rw [h2] at e2
          clear bad hE
          go_enter Tryz.func35, Tryz.ntmps35
          go_wp2_with (first
            | (go_at_call 32; with_reducible refine (refwright_any M F R 4096 _ hg h4k).mono ?_; rintro e w1 ⟨rfl, hb1⟩; rw [h1]; have d0 := (hb1.cell (p := ⟨w.heap.size, 0, none⟩) lA).trans c0; have d1 := (hb1.cell (p := ⟨w.heap.size, 1, none⟩) lA).trans c1; have d2 := (hb1.cell (p := ⟨w.heap.size, 2, none⟩) lA).trans c2; have l1 := Nat.lt_of_lt_of_le lA hb1.size; have b1 := next hb hb1; have k1 := h.below b1)
            | (go_at_call 34; with_reducible refine (refright_any 4096 lo m lc D _ k1).mono ?_; rintro e w2 ⟨rfl, hb2⟩; rw [e2]; have f0 := (hb2.cell (p := ⟨w.heap.size, 0, none⟩) l1).trans d0; have f1 := (hb2.cell (p := ⟨w.heap.size, 1, none⟩) l1).trans d1; have f2 := (hb2.cell (p := ⟨w.heap.size, 2, none⟩) l1).trans d2; have l2 := Nat.lt_of_lt_of_le l1 hb2.size; have b2 := next b1 hb2; have k2 := h.below b2)
            | (go_at_call 50; with_reducible refine (foreign_any M F R lo m lc D _ hg k2).mono ?_; rintro e w3 ⟨rfl, hb3⟩; rw [h3]; have g2 := (hb3.cell (p := ⟨w.heap.size, 2, none⟩) l2).trans f2; have b3 := next b2 hb3))
          go_ret3
          exact BAD.out _ b3 (by rw [HE.out]; omega) _ HE.out
        · have hE : writeE ⟨M, F, R⟩ (saysN D m) = 0 := writeE_ok (by rw [h1, h2, h3]; rfl) (by rw [hsl]; exact h4)
          have eA : writeA ⟨M, F, R⟩ (saysN D m) = recsL (saysN D m) := by unfold writeA; rw [if_pos hE]
          have eM : writeM ⟨M, F, R⟩ (saysN D m) = markL (recsL (saysN D m)) := by unfold writeM; rw [if_pos hE]
          rw [hE, eA, eM]
          have hR := (rightG_iff.1 h1).r1
          simp only at hR
          have hm4 : m ≤ 4096 := by omega
          have hmem : ∀ k, k < m → 0 ≤ (D k).line ∧ (D k).line ≤ 4096 ∧ (D k).bz.length = 64 := fun k hk => by
            have t := rightL_mem h2 (says_mem D hk)
            exact ⟨t.1, Int.le_of_lt t.2.1, t.2.2⟩
          have hbyt : Bytes (recsL (saysN D m)) := recsL_bytes (fun c hc => by
            obtain ⟨i, hi, rfl⟩ : ∃ i, i < m ∧ (D i).says = c := by
              unfold saysN at hc
              rw [List.mem_map] at hc
              obtain ⟨i, hi, e⟩ := hc
              exact ⟨i, by simpa using hi, e⟩
            exact (h.ok i hi).by_)
          rw [h2] at e2
          have hn5 : 128 * m ≤ 524288 := by omega
          have HM := hid hmem
          clear bad eA eM hmem hE
          generalize hZ : recsL (saysN D m) = Z at *
          have HZ := hid hZ
          clear hZ
          go_enter Tryz.func35, Tryz.ntmps35
          go_wp2_with (first
            | (go_at_call 32; with_reducible refine (refwright_any M F R 4096 _ hg h4k).mono ?_; rintro e w1 ⟨rfl, hb1⟩; rw [h1]; have d0 := (hb1.cell (p := ⟨w.heap.size, 0, none⟩) lA).trans c0; have d1 := (hb1.cell (p := ⟨w.heap.size, 1, none⟩) lA).trans c1; have d2 := (hb1.cell (p := ⟨w.heap.size, 2, none⟩) lA).trans c2; have l1 := Nat.lt_of_lt_of_le lA hb1.size; have b1 := next hb hb1; have k1 := h.below b1)
            | (go_at_call 34; with_reducible refine (refright_any 4096 lo m lc D _ k1).mono ?_; rintro e w2 ⟨rfl, hb2⟩; rw [e2]; have f0 := (hb2.cell (p := ⟨w.heap.size, 0, none⟩) l1).trans d0; have f1 := (hb2.cell (p := ⟨w.heap.size, 1, none⟩) l1).trans d1; have f2 := (hb2.cell (p := ⟨w.heap.size, 2, none⟩) l1).trans d2; have l2 := Nat.lt_of_lt_of_le l1 hb2.size; have b2 := next b1 hb2; have k2 := h.below b2)
            | (go_at_call 50; with_reducible refine (foreign_any M F R lo m lc D _ hg k2).mono ?_; rintro e w3 ⟨rfl, hb3⟩; rw [h3]; have g2 := (hb3.cell (p := ⟨w.heap.size, 2, none⟩) l2).trans f2; have b3 := next b2 hb3; have cR := records_any lo m lc D w3 (h.below b3) hm4 HM.out; rw [HZ.out] at cR)
            | (go_at_call 51; with_reducible refine cR.mono ?_; rintro e w5 ⟨ao, ca, rfl, oa, hb5⟩; have cM := refmark_any m ao (128 * m) ca Z w5 oa.sl hbyt hn5 rfl)
            | (go_at_call 52; with_reducible refine cM.mono ?_; rintro e w6 ⟨gm, cm, rfl, om, hb6⟩))
          go_ret3
          have hs3 := b3.size
          have hs5 := hb5.size
          refine ⟨ao, _, ca, _, _, cm, rfl, (oa.below hb6).mono b3.size, om.mono (by omega), fun c1 d1 e1 e2 he => ?_, next (next b3 hb5) hb6⟩
          have p1 := (own_at oa e1).2
          have p2 := (own_at om e2).1
          omega
end Go.Proofs.YtgiippbjieecmaaGreat
