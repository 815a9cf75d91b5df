/- joistref14.From by its contract. -/
import Derived.Test.YthkloknongkpdaaRefTreB
namespace Go.Proofs.Ythkloknongkpdaa
set_option maxRecDepth 100000
open Go.RowKit
set_option linter.unusedVariables false
set_option linter.unusedSimpArgs false
set_option maxRecDepth 100000

theorem Sl.kat' {w wr : World} {b off n cap : Nat} {zs : List Int} (h : Sl .i64 w (some ⟨b, off, none⟩) n cap zs) (hb : Below w.heap.size w wr) {i : Nat} (hi : i < n) : wr.cell? ⟨b, off + i, none⟩ = some (.int .i64 (ka zs i)) := by
  obtain ⟨b', o', e, _, hc⟩ := (h.below hb).here (by omega)
  simp only [Option.some.injEq, Addr.mk.injEq, and_true] at e
  obtain ⟨rfl, rfl⟩ := e
  exact hc i hi
theorem bs_ext (w : World) (k : Nat) (s : Blk) (hk : w.heap.size = k) (hs : RgB s) : Bs (w.alloc (.cells #[.int .i64 s.pos, .int .i64 s.sz, .int .i64 s.ix] 42)) (some ⟨k, 0, none⟩) 1 1 [s] := by
  subst hk
  refine ⟨rfl, Nat.le_refl _, (by intro h; cases h), fun _ => ⟨w.heap.size, 0, rfl, by simp, fun i hi => B3.of fun j u hu => ?_⟩, fun x hx => by rw [List.mem_singleton.1 hx]; exact hs⟩
  obtain rfl : i = 0 := by omega
  have hu' : s.cells[j]? = some u := hu
  rw [cell_of_row _ w.heap.size _ _ 42 (0, 0) (heap_alloc_new w _)]
  simpa [Blk.cells] using hu'
/-- The last one's size turned. -/
theorem OwX.last {B : Nat} {w : World} {g n cap : Nat} {l : List Blk} {x : Blk} {z : Int} (h : OwX B w (some ⟨g, 0, none⟩) n cap (l ++ [x])) (hz : Rg z) :
    OwX B (w.setCell ⟨g, l.length * 3 + 1, none⟩ (.int .i64 z)) (some ⟨g, 0, none⟩) n cap (l ++ [⟨x.pos, z, x.ix⟩]) := by
  refine ⟨by have := h.len; simpa using this, ?_, fun s hs => ?_⟩
  · have e : cellsB (l ++ [⟨x.pos, z, x.ix⟩]) = (cellsB (l ++ [x])).set (l.length * 3 + 1) (.int .i64 z) := by
      rw [cellsB_append, cellsB_append, List.set_append_right _ _ (by rw [cellsB_length]; omega), cellsB_length]
      rw [show l.length * 3 + 1 - l.length * 3 = 1 by omega]
      rfl
    rw [e]
    exact (h.row.stored _ _).1
  · rcases List.mem_append.1 hs with hs | hs
    · exact h.rg s (List.mem_append.2 (Or.inl hs))
    · have hx := h.rg x (List.mem_append.2 (Or.inr (by simp)))
      rw [List.mem_singleton.1 hs]
      exact ⟨hx.p, hz, hx.i⟩
theorem OwX.lastAt {B : Nat} {w : World} {ao : Option Addr} {n cap : Nat} {l : List Blk} {x : Blk} (h : OwX B w ao n cap (l ++ [x])) : n = l.length + 1 ∧ ∃ g, ao = some ⟨g, 0, none⟩ ∧ B ≤ g ∧ w.cell? ⟨g, l.length * 3 + 1, none⟩ = some (.int .i64 x.sz) ∧ w.frozen? ⟨g, l.length * 3 + 1, none⟩ = false := by
  have hn : n = l.length + 1 := by have := h.len; simpa using this.symm
  obtain ⟨g, rfl, hg, _⟩ := h.shape (by omega)
  refine ⟨hn, g, rfl, hg, ?_, h.free _⟩
  obtain ⟨_, c1, _⟩ := h.bs.at (Below.refl _ _) (i := l.length) (by omega)
  have e : ba (l ++ [x]) l.length = x := by simp [ba, List.getD]
  rw [e, Nat.zero_add] at c1
  exact c1

set_option maxHeartbeats 2000000 in
theorem rfrom_sl (ao : Option Addr) (n cap : Nat) (ks : List Int) (w : World) (h : Sl .i64 w ao n cap ks) (hn : n ≤ 9223372036854775807) :
    Calls Try.prog 11 #[.slice ao n cap] w fun e w' => ∃ bo m c, e = .returned (.tuple #[.slice bo m c, .bool (fxB ks)]) ∧ OwX w.heap.size w' bo m c (fxL ks) ∧ Below w.heap.size w w' := by
  have hl := h.len
  by_cases hn64 : 64 < n
  · obtain ⟨e1, e2⟩ := fx_f (ks := ks) (fun c => by have := c.1; omega)
    rw [e1, e2]
    have hni : 64 < (n : Int) := by omega
    clear h e1 e2
    go_enter Try.func11, Try.ntmps11
    go_wp2
    go_ret2
    exact ⟨none, 0, 0, rfl, owX_nil _ _, Below.refl _ _⟩
  · have hni : ¬ (64 < (n : Int)) := by omega
    have HFA : Hid (∀ w', Below w.heap.size w w' → ∀ k, k < n → ¬ MayX ks k → ∃ bo m c, Ending.returned (.tuple #[.slice none 0 0, .bool false]) = .returned (.tuple #[.slice bo m c, .bool (fxB ks)]) ∧ OwX w.heap.size w' bo m c (fxL ks) ∧ Below w.heap.size w w') := hid (fun w' hb k hk hm => by
      obtain ⟨e1, e2⟩ := fx_f (ks := ks) (fun c => hm (c.2 k (by omega)))
      rw [e1, e2]
      exact ⟨none, 0, 0, rfl, owX_nil _ _, hb⟩)
    go_enter Try.func11, Try.ntmps11
    go_wp2
    go_loopw [4, 5] (fun s4 s5 wr => ∃ (k : Nat) (bo : Option Addr) (m c : Nat), k ≤ n ∧ s4 = .slice bo m c ∧ s5 = .int .i64 k ∧ Hid (∀ j, j < k → MayX ks j) ∧ m ≤ k ∧ Hid (OwX w.heap.size wr bo m c (fxK ks k)) ∧ Below w.heap.size w wr) (fun _ s5 _ => n - (intOf s5).toNat)
    case atStart => exact ⟨0, none, 0, 0, Nat.zero_le _, rfl, rfl, hid (fun j hj => absurd hj (by omega)), Nat.le_refl _, hid (owX_nil _ _), Below.refl _ _⟩
    case round =>
      obtain ⟨k, bo, m, c, hk, rfl, rfl, HMY, hm, HO, hb⟩ := hrel
      by_cases hlt : k < n
      · obtain ⟨b, o, rfl, _, _⟩ := h.here (by omega)
        have c0 := h.kat' hb hlt
        have hki : (k : Int) < (n : Int) := by omega
        have HPF := hid (pfx_all (ks := ks) (k := k) HMY.out)
        have HMN : Hid (MayX ks k → ∀ j, j < k + 1 → MayX ks j) := hid (fun hm j hj => by
          by_cases c : j < k
          · exact HMY.out j c
          · obtain rfl : j = k := by omega
            exact hm)
        obtain ⟨x, hx⟩ : ∃ x, ka ks k = x := ⟨_, rfl⟩
        have HX := hid hx
        rw [hx] at c0
        clear hx
        by_cases hr1 : x < -1
        · have HN : Hid (¬ MayX ks k) := hid (fun c => by have := c.1; rw [HX.out] at this; omega)
          clear h HO HPF HMN HMY HX
          go_wp2
          go_ret2
          exact HFA.out _ hb k hlt HN.out
        by_cases hr2 : 7 < x
        · have HN : Hid (¬ MayX ks k) := hid (fun c => by have := c.2.1; rw [HX.out] at this; omega)
          clear h HO HPF HMN HMY HX
          go_wp2
          go_ret2
          exact HFA.out _ hb k hlt HN.out
        by_cases hk0 : k = 0
        · have hkzd : ((k : Int) == 0) = true := by simp; omega
          have hkz : ¬ (0 < (k : Int)) := by omega
          have hkz' : ¬ (0 < k) := by omega
          have HNJ : Hid (¬ JoinX ks k) := hid (fun c => by have := c.1; omega)
          by_cases h7 : x = 7
          · have HN : Hid (¬ MayX ks k) := hid (fun c => HNJ.out (c.2.2 (HX.out.trans h7)))
            have h7d : (x == 7) = true := by simpa using h7
            clear h HO HPF HMN HMY HX hk0 h7
            go_wp2
            go_ret2
            exact HFA.out _ hb k hlt HN.out
          · have h7d : (x == 7) = false := by simpa using h7
            have HNW : Hid (MayX ks k ∧ fxK ks (k + 1) = fxK ks k ++ [⟨k, 1, usX x⟩]) := hid ⟨⟨by rw [HX.out]; omega, by rw [HX.out]; omega, fun c => absurd (HX.out.symm.trans c) h7⟩, by rw [fx_new HNJ.out, HX.out]⟩
            clear hk0 h7
            by_cases hx1 : x = -1
            · have hx1d : (x == -1) = true := by simpa using hx1
              have hus : usX x = 0 := if_pos hx1
              have h6d : (x == 6) = false := by simp; omega
              clear hx1
              have hrg : RgB ⟨k, 1, 0⟩ := ⟨by unfold Rg; show _ ≤ (k : Int) ∧ (k : Int) ≤ _; omega, by unfold Rg; show _ ≤ (1 : Int) ∧ (1 : Int) ≤ _; omega, by unfold Rg; show _ ≤ (0 : Int) ∧ (0 : Int) ≤ _; omega⟩
              have HP := hid (bs_ext wr wr.heap.size ⟨k, 1, 0⟩ rfl hrg)
              have hoA := HO.out.below ((Below.refl _ wr).alloc (Nat.le_refl _) (.cells #[.int .i64 (k : Int), .int .i64 1, .int .i64 0] 42))
              have hbA := hb.alloc hb.size (.cells #[.int .i64 (k : Int), .int .i64 1, .int .i64 0] 42)
              have hbA' := hbA.size
              have h24 : (m + 1) * 24 ≤ 140737488355328 := by omega
              have HMY2 := hid (HMN.out HNW.out.1)
              have HNX : Hid (fxK ks (k + 1) = fxK ks k ++ [⟨k, 1, 0⟩]) := hid (by rw [HNW.out.2, hus])
              clear h HO HPF HMN HMY HX HNW HNJ hus HFA
              go_wp2_with (at_builtin; refine append_xs rfl (.tmp 85) (.tmp 89) rfl w.heap.size _ m _ rfl hoA.row hoA.rg (some ⟨wr.heap.size, 0, none⟩) 1 1 [⟨k, 1, 0⟩] rfl HP.out h24 hbA' ?_; intro bo2 c2 w2 ho2 hg2; have HO2 := hid ho2; have hb2 : Below w.heap.size w w2 := hbA.grown hg2 hbA' (fun j hj => (hoA.row.lt j hj).1); clear ho2 hg2)
              go_roundw
              case rel => exact ⟨k + 1, bo2, m + 1, c2, by omega, rfl, by go_num, HMY2, by omega, by rw [HNX.out]; exact HO2, hb2⟩
              case measure => simp [intOf]; omega
            · have hx1d : (x == -1) = false := by simpa using hx1
              by_cases hx6 : x = 6
              · have h6d : (x == 6) = true := by simpa using hx6
                have hus : usX x = 2 := by unfold usX; rw [if_neg hx1, if_pos hx6]
                clear hx1 hx6
                have hrg : RgB ⟨k, 1, 2⟩ := ⟨by unfold Rg; show _ ≤ (k : Int) ∧ (k : Int) ≤ _; omega, by unfold Rg; show _ ≤ (1 : Int) ∧ (1 : Int) ≤ _; omega, by unfold Rg; show _ ≤ (2 : Int) ∧ (2 : Int) ≤ _; omega⟩
                have HP := hid (bs_ext wr wr.heap.size ⟨k, 1, 2⟩ rfl hrg)
                have hoA := HO.out.below ((Below.refl _ wr).alloc (Nat.le_refl _) (.cells #[.int .i64 (k : Int), .int .i64 1, .int .i64 2] 42))
                have hbA := hb.alloc hb.size (.cells #[.int .i64 (k : Int), .int .i64 1, .int .i64 2] 42)
                have hbA' := hbA.size
                have h24 : (m + 1) * 24 ≤ 140737488355328 := by omega
                have HMY2 := hid (HMN.out HNW.out.1)
                have HNX : Hid (fxK ks (k + 1) = fxK ks k ++ [⟨k, 1, 2⟩]) := hid (by rw [HNW.out.2, hus])
                clear h HO HPF HMN HMY HX HNW HNJ hus HFA
                go_wp2_with (at_builtin; refine append_xs rfl (.tmp 85) (.tmp 89) rfl w.heap.size _ m _ rfl hoA.row hoA.rg (some ⟨wr.heap.size, 0, none⟩) 1 1 [⟨k, 1, 2⟩] rfl HP.out h24 hbA' ?_; intro bo2 c2 w2 ho2 hg2; have HO2 := hid ho2; have hb2 : Below w.heap.size w w2 := hbA.grown hg2 hbA' (fun j hj => (hoA.row.lt j hj).1); clear ho2 hg2)
                go_roundw
                case rel => exact ⟨k + 1, bo2, m + 1, c2, by omega, rfl, by go_num, HMY2, by omega, by rw [HNX.out]; exact HO2, hb2⟩
                case measure => simp [intOf]; omega
              · have h6d : (x == 6) = false := by simpa using hx6
                have hus : usX x = 1 := by unfold usX; rw [if_neg hx1, if_neg hx6]
                clear hx1 hx6
                have hrg : RgB ⟨k, 1, 1⟩ := ⟨by unfold Rg; show _ ≤ (k : Int) ∧ (k : Int) ≤ _; omega, by unfold Rg; show _ ≤ (1 : Int) ∧ (1 : Int) ≤ _; omega, by unfold Rg; show _ ≤ (1 : Int) ∧ (1 : Int) ≤ _; omega⟩
                have HP := hid (bs_ext wr wr.heap.size ⟨k, 1, 1⟩ rfl hrg)
                have hoA := HO.out.below ((Below.refl _ wr).alloc (Nat.le_refl _) (.cells #[.int .i64 (k : Int), .int .i64 1, .int .i64 1] 42))
                have hbA := hb.alloc hb.size (.cells #[.int .i64 (k : Int), .int .i64 1, .int .i64 1] 42)
                have hbA' := hbA.size
                have h24 : (m + 1) * 24 ≤ 140737488355328 := by omega
                have HMY2 := hid (HMN.out HNW.out.1)
                have HNX : Hid (fxK ks (k + 1) = fxK ks k ++ [⟨k, 1, 1⟩]) := hid (by rw [HNW.out.2, hus])
                clear h HO HPF HMN HMY HX HNW HNJ hus HFA
                go_wp2_with (at_builtin; refine append_xs rfl (.tmp 85) (.tmp 89) rfl w.heap.size _ m _ rfl hoA.row hoA.rg (some ⟨wr.heap.size, 0, none⟩) 1 1 [⟨k, 1, 1⟩] rfl HP.out h24 hbA' ?_; intro bo2 c2 w2 ho2 hg2; have HO2 := hid ho2; have hb2 : Below w.heap.size w w2 := hbA.grown hg2 hbA' (fun j hj => (hoA.row.lt j hj).1); clear ho2 hg2)
                go_roundw
                case rel => exact ⟨k + 1, bo2, m + 1, c2, by omega, rfl, by go_num, HMY2, by omega, by rw [HNX.out]; exact HO2, hb2⟩
                case measure => simp [intOf]; omega
        · have hkzd : ((k : Int) == 0) = false := by simp; omega
          have hkz : 0 < (k : Int) := by omega
          have hkz' : 0 < k := by omega
          obtain ⟨k1, hk1⟩ : ∃ k1, k1 + 1 = k := ⟨k - 1, by omega⟩
          have z1 : IntKind.i64.wrap ((k : Int) - 1) = (k1 : Int) := by rw [IntWalk.i64_in _ ⟨by omega, by omega⟩]; omega
          have hk1n : (k1 : Int) < (n : Int) := by omega
          have d0 := h.kat' hb (show k1 < n by omega)
          obtain ⟨q, hq⟩ : ∃ q, ka ks k1 = q := ⟨_, rfl⟩
          have HQ : Hid (ka ks (k - 1) = q) := hid (by rw [show k - 1 = k1 by omega]; exact hq)
          rw [hq] at d0
          clear hq
          by_cases h7 : x = 7
          · have h7d : (x == 7) = true := by simpa using h7
            by_cases hq6 : q = 6
            · have hq6d : (q != 6) = false := by simpa using hq6
              have HJ : Hid (JoinX ks k) := hid ⟨hkz', Or.inl ⟨HX.out.trans h7, Or.inl (HQ.out.trans hq6)⟩⟩
              have HMK : Hid (MayX ks k) := hid ⟨by rw [HX.out]; omega, by rw [HX.out]; omega, fun _ => HJ.out⟩
              clear h7 hq6
              rcases HPF.out.nil with hc0 | ⟨lw, y, hfy, _⟩
              · omega
              have HO' := HO.out
              rw [hfy] at HO'
              obtain ⟨hmn, g, rfl, hg, e0, e1⟩ := HO'.lastAt
              have hys : 1 ≤ y.sz ∧ y.sz ≤ 64 := by
                have hlay := HPF.out.lay
                rw [hfy] at hlay
                have h1 := layX_at hlay (i := lw.length) (by simp)
                have e : ba (lw ++ [y]) lw.length = y := by simp [ba, List.getD]
                rw [e] at h1
                omega
              have x1 : IntKind.i64.wrap (y.sz + 1) = y.sz + 1 := IntWalk.i64_in _ ⟨by omega, by omega⟩
              have x2 : IntKind.i64.wrap ((m : Int) - 1) = (lw.length : Int) := by rw [IntWalk.i64_in _ ⟨by omega, by omega⟩]; omega
              have hlwm : (lw.length : Int) < (m : Int) := by omega
              have HO2 := hid (HO'.last (z := y.sz + 1) (by unfold Rg; omega))
              have HNX : Hid (fxK ks (k + 1) = lw ++ [⟨y.pos, y.sz + 1, y.ix⟩]) := hid (by rw [fx_join HJ.out, hfy, more_snoc])
              have HMY2 := hid (HMN.out HMK.out)
              clear h HO HO' HPF HMN HMY HX HQ HJ HMK hfy hk0 hk1 HFA hmn
              generalize lw.length = q3 at *
              generalize y.sz = ysz at *
              go_wp2
              go_roundw
              case rel => exact ⟨k + 1, some ⟨g, 0, none⟩, m, c, by omega, rfl, by go_num, HMY2, by omega, by rw [HNX.out]; exact HO2, hb.setCell hg _⟩
              case measure => simp [intOf]; omega
            · have hq6d : (q != 6) = true := by simpa using hq6
              by_cases hq7 : q = 7
              · have hq7d : (q != 7) = false := by simpa using hq7
                have HJ : Hid (JoinX ks k) := hid ⟨hkz', Or.inl ⟨HX.out.trans h7, Or.inr (HQ.out.trans hq7)⟩⟩
                have HMK : Hid (MayX ks k) := hid ⟨by rw [HX.out]; omega, by rw [HX.out]; omega, fun _ => HJ.out⟩
                clear h7 hq6 hq7
                rcases HPF.out.nil with hc0 | ⟨lw, y, hfy, _⟩
                · omega
                have HO' := HO.out
                rw [hfy] at HO'
                obtain ⟨hmn, g, rfl, hg, e0, e1⟩ := HO'.lastAt
                have hys : 1 ≤ y.sz ∧ y.sz ≤ 64 := by
                  have hlay := HPF.out.lay
                  rw [hfy] at hlay
                  have h1 := layX_at hlay (i := lw.length) (by simp)
                  have e : ba (lw ++ [y]) lw.length = y := by simp [ba, List.getD]
                  rw [e] at h1
                  omega
                have x1 : IntKind.i64.wrap (y.sz + 1) = y.sz + 1 := IntWalk.i64_in _ ⟨by omega, by omega⟩
                have x2 : IntKind.i64.wrap ((m : Int) - 1) = (lw.length : Int) := by rw [IntWalk.i64_in _ ⟨by omega, by omega⟩]; omega
                have hlwm : (lw.length : Int) < (m : Int) := by omega
                have HO2 := hid (HO'.last (z := y.sz + 1) (by unfold Rg; omega))
                have HNX : Hid (fxK ks (k + 1) = lw ++ [⟨y.pos, y.sz + 1, y.ix⟩]) := hid (by rw [fx_join HJ.out, hfy, more_snoc])
                have HMY2 := hid (HMN.out HMK.out)
                clear h HO HO' HPF HMN HMY HX HQ HJ HMK hfy hk0 hk1 HFA hmn
                generalize lw.length = q3 at *
                generalize y.sz = ysz at *
                go_wp2
                go_roundw
                case rel => exact ⟨k + 1, some ⟨g, 0, none⟩, m, c, by omega, rfl, by go_num, HMY2, by omega, by rw [HNX.out]; exact HO2, hb.setCell hg _⟩
                case measure => simp [intOf]; omega
              · have hq7d : (q != 7) = true := by simpa using hq7
                have HN : Hid (¬ MayX ks k) := hid (fun c => by
                  obtain ⟨_, c2⟩ := c.2.2 (HX.out.trans h7)
                  rw [HX.out, HQ.out] at c2
                  omega)
                clear h HO HPF HMN HMY HX HQ hk0 h7 hq6 hq7 hk1
                go_wp2
                go_ret2
                exact HFA.out _ hb k hlt HN.out
          · have h7d : (x == 7) = false := by simpa using h7
            by_cases hf : x = -1 ∧ q = -1
            · have hx1 : (x == -1) = true := by simpa using hf.1
              have hq1 : (q == -1) = true := by simpa using hf.2
              have HJ : Hid (JoinX ks k) := hid ⟨hkz', Or.inr ⟨HX.out.trans hf.1, HQ.out.trans hf.2⟩⟩
              have HMK : Hid (MayX ks k) := hid ⟨by rw [HX.out]; omega, by rw [HX.out]; omega, fun _ => HJ.out⟩
              clear h7 hf
              rcases HPF.out.nil with hc0 | ⟨lw, y, hfy, _⟩
              · omega
              have HO' := HO.out
              rw [hfy] at HO'
              obtain ⟨hmn, g, rfl, hg, e0, e1⟩ := HO'.lastAt
              have hys : 1 ≤ y.sz ∧ y.sz ≤ 64 := by
                have hlay := HPF.out.lay
                rw [hfy] at hlay
                have h1 := layX_at hlay (i := lw.length) (by simp)
                have e : ba (lw ++ [y]) lw.length = y := by simp [ba, List.getD]
                rw [e] at h1
                omega
              have x1 : IntKind.i64.wrap (y.sz + 1) = y.sz + 1 := IntWalk.i64_in _ ⟨by omega, by omega⟩
              have x2 : IntKind.i64.wrap ((m : Int) - 1) = (lw.length : Int) := by rw [IntWalk.i64_in _ ⟨by omega, by omega⟩]; omega
              have hlwm : (lw.length : Int) < (m : Int) := by omega
              have HO2 := hid (HO'.last (z := y.sz + 1) (by unfold Rg; omega))
              have HNX : Hid (fxK ks (k + 1) = lw ++ [⟨y.pos, y.sz + 1, y.ix⟩]) := hid (by rw [fx_join HJ.out, hfy, more_snoc])
              have HMY2 := hid (HMN.out HMK.out)
              clear h HO HO' HPF HMN HMY HX HQ HJ HMK hfy hk0 hk1 HFA hmn
              generalize lw.length = q3 at *
              generalize y.sz = ysz at *
              go_wp2
              go_roundw
              case rel => exact ⟨k + 1, some ⟨g, 0, none⟩, m, c, by omega, rfl, by go_num, HMY2, by omega, by rw [HNX.out]; exact HO2, hb.setCell hg _⟩
              case measure => simp [intOf]; omega
            · have HNJ : Hid (¬ JoinX ks k) := hid (fun c => by
                obtain ⟨_, c2⟩ := c
                rw [HX.out, HQ.out] at c2
                omega)
              have HNW : Hid (MayX ks k ∧ fxK ks (k + 1) = fxK ks k ++ [⟨k, 1, usX x⟩]) := hid ⟨⟨by rw [HX.out]; omega, by rw [HX.out]; omega, fun c => absurd (HX.out.symm.trans c) h7⟩, by rw [fx_new HNJ.out, HX.out]⟩
              clear hk0 h7 hk1
              by_cases hx1 : x = -1
              · have hq1 : (q == -1) = false := by simp; omega
                have hx1d : (x == -1) = true := by simpa using hx1
                have hus : usX x = 0 := if_pos hx1
                have h6d : (x == 6) = false := by simp; omega
                clear hf hx1
                have hrg : RgB ⟨k, 1, 0⟩ := ⟨by unfold Rg; show _ ≤ (k : Int) ∧ (k : Int) ≤ _; omega, by unfold Rg; show _ ≤ (1 : Int) ∧ (1 : Int) ≤ _; omega, by unfold Rg; show _ ≤ (0 : Int) ∧ (0 : Int) ≤ _; omega⟩
                have HP := hid (bs_ext wr wr.heap.size ⟨k, 1, 0⟩ rfl hrg)
                have hoA := HO.out.below ((Below.refl _ wr).alloc (Nat.le_refl _) (.cells #[.int .i64 (k : Int), .int .i64 1, .int .i64 0] 42))
                have hbA := hb.alloc hb.size (.cells #[.int .i64 (k : Int), .int .i64 1, .int .i64 0] 42)
                have hbA' := hbA.size
                have h24 : (m + 1) * 24 ≤ 140737488355328 := by omega
                have HMY2 := hid (HMN.out HNW.out.1)
                have HNX : Hid (fxK ks (k + 1) = fxK ks k ++ [⟨k, 1, 0⟩]) := hid (by rw [HNW.out.2, hus])
                clear h HO HPF HMN HMY HX HNW HNJ HQ hus HFA
                go_wp2_with (at_builtin; refine append_xs rfl (.tmp 85) (.tmp 89) rfl w.heap.size _ m _ rfl hoA.row hoA.rg (some ⟨wr.heap.size, 0, none⟩) 1 1 [⟨k, 1, 0⟩] rfl HP.out h24 hbA' ?_; intro bo2 c2 w2 ho2 hg2; have HO2 := hid ho2; have hb2 : Below w.heap.size w w2 := hbA.grown hg2 hbA' (fun j hj => (hoA.row.lt j hj).1); clear ho2 hg2)
                go_roundw
                case rel => exact ⟨k + 1, bo2, m + 1, c2, by omega, rfl, by go_num, HMY2, by omega, by rw [HNX.out]; exact HO2, hb2⟩
                case measure => simp [intOf]; omega
              · have hx1d : (x == -1) = false := by simpa using hx1
                by_cases hx6 : x = 6
                · have h6d : (x == 6) = true := by simpa using hx6
                  have hus : usX x = 2 := by unfold usX; rw [if_neg hx1, if_pos hx6]
                  clear hf hx1 hx6
                  have hrg : RgB ⟨k, 1, 2⟩ := ⟨by unfold Rg; show _ ≤ (k : Int) ∧ (k : Int) ≤ _; omega, by unfold Rg; show _ ≤ (1 : Int) ∧ (1 : Int) ≤ _; omega, by unfold Rg; show _ ≤ (2 : Int) ∧ (2 : Int) ≤ _; omega⟩
                  have HP := hid (bs_ext wr wr.heap.size ⟨k, 1, 2⟩ rfl hrg)
                  have hoA := HO.out.below ((Below.refl _ wr).alloc (Nat.le_refl _) (.cells #[.int .i64 (k : Int), .int .i64 1, .int .i64 2] 42))
                  have hbA := hb.alloc hb.size (.cells #[.int .i64 (k : Int), .int .i64 1, .int .i64 2] 42)
                  have hbA' := hbA.size
                  have h24 : (m + 1) * 24 ≤ 140737488355328 := by omega
                  have HMY2 := hid (HMN.out HNW.out.1)
                  have HNX : Hid (fxK ks (k + 1) = fxK ks k ++ [⟨k, 1, 2⟩]) := hid (by rw [HNW.out.2, hus])
                  clear h HO HPF HMN HMY HX HNW HNJ HQ hus HFA
                  go_wp2_with (at_builtin; refine append_xs rfl (.tmp 85) (.tmp 89) rfl w.heap.size _ m _ rfl hoA.row hoA.rg (some ⟨wr.heap.size, 0, none⟩) 1 1 [⟨k, 1, 2⟩] rfl HP.out h24 hbA' ?_; intro bo2 c2 w2 ho2 hg2; have HO2 := hid ho2; have hb2 : Below w.heap.size w w2 := hbA.grown hg2 hbA' (fun j hj => (hoA.row.lt j hj).1); clear ho2 hg2)
                  go_roundw
                  case rel => exact ⟨k + 1, bo2, m + 1, c2, by omega, rfl, by go_num, HMY2, by omega, by rw [HNX.out]; exact HO2, hb2⟩
                  case measure => simp [intOf]; omega
                · have h6d : (x == 6) = false := by simpa using hx6
                  have hus : usX x = 1 := by unfold usX; rw [if_neg hx1, if_neg hx6]
                  clear hf hx1 hx6
                  have hrg : RgB ⟨k, 1, 1⟩ := ⟨by unfold Rg; show _ ≤ (k : Int) ∧ (k : Int) ≤ _; omega, by unfold Rg; show _ ≤ (1 : Int) ∧ (1 : Int) ≤ _; omega, by unfold Rg; show _ ≤ (1 : Int) ∧ (1 : Int) ≤ _; omega⟩
                  have HP := hid (bs_ext wr wr.heap.size ⟨k, 1, 1⟩ rfl hrg)
                  have hoA := HO.out.below ((Below.refl _ wr).alloc (Nat.le_refl _) (.cells #[.int .i64 (k : Int), .int .i64 1, .int .i64 1] 42))
                  have hbA := hb.alloc hb.size (.cells #[.int .i64 (k : Int), .int .i64 1, .int .i64 1] 42)
                  have hbA' := hbA.size
                  have h24 : (m + 1) * 24 ≤ 140737488355328 := by omega
                  have HMY2 := hid (HMN.out HNW.out.1)
                  have HNX : Hid (fxK ks (k + 1) = fxK ks k ++ [⟨k, 1, 1⟩]) := hid (by rw [HNW.out.2, hus])
                  clear h HO HPF HMN HMY HX HNW HNJ HQ hus HFA
                  go_wp2_with (at_builtin; refine append_xs rfl (.tmp 85) (.tmp 89) rfl w.heap.size _ m _ rfl hoA.row hoA.rg (some ⟨wr.heap.size, 0, none⟩) 1 1 [⟨k, 1, 1⟩] rfl HP.out h24 hbA' ?_; intro bo2 c2 w2 ho2 hg2; have HO2 := hid ho2; have hb2 : Below w.heap.size w w2 := hbA.grown hg2 hbA' (fun j hj => (hoA.row.lt j hj).1); clear ho2 hg2)
                  go_roundw
                  case rel => exact ⟨k + 1, bo2, m + 1, c2, by omega, rfl, by go_num, HMY2, by omega, by rw [HNX.out]; exact HO2, hb2⟩
                  case measure => simp [intOf]; omega
      · obtain rfl : k = n := by omega
        have HE : Hid (FxOk ks) := hid ⟨by omega, fun j hj => HMY.out j (by omega)⟩
        have HE2 : Hid (fxK ks k = fxK ks ks.length) := hid (by rw [hl])
        have hkk : ¬ ((k : Int) < (k : Int)) := by omega
        clear h HMY
        go_wp2
        go_ret2
        exact ⟨bo, m, c, by rw [(fx_t HE.out).2]; rfl, by rw [(fx_t HE.out).1, ← HE2.out]; exact HO.out, hb⟩
end Go.Proofs.Ythkloknongkpdaa
