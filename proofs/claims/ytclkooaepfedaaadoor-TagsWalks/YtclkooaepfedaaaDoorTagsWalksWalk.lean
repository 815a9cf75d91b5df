/- 'TagsWalks' walked: from tag to tag one comes to the end, meeting each used block. -/
import Derived.Test.YtclkooaepfedaaaDoorTagW
namespace Go.Proofs.YtclkooaepfedaaaDoor
set_option maxRecDepth 100000
open Go.RowKit
set_option linter.unusedVariables false
set_option linter.unusedSimpArgs false
set_option maxRecDepth 100000

set_option maxHeartbeats 4000000 in
theorem tagsWalks_walk (w : World) (T : Mst w) (f : Int) (hf : (Lit.int .i64 f).wf = true) (t : Int) (ht : (Lit.int .i64 t).wf = true) (ao : Option Addr) (n cap : Nat) (l : List Blk) (h : Bs w ao n cap l) (hc : cap * 24 ≤ 140737488351232) (bo : Option Addr) (m cap' : Nat) (A : Nat → Option Addr) (N C : Nat → Nat) (ds : List (List Int)) (hd : Rd w bo m cap' A N C ds) (hc' : cap' ≤ 9223372036854775807) :
    Calls Tryd.prog 6 #[.int .i64 f, .int .i64 t, .slice ao n cap, .slice bo m cap'] w fun e w' => e = .returned (.bool true) ∧ Below w.heap.size w w' := by
  have hl := h.len
  have hdl := hd.len
  have hm : m ≤ 9223372036854775807 := by have := hd.room; omega
  have hnn : n ≤ 9223372036854775807 := by have := h.room; omega
  have cM := smallT_any w T
  clear hf ht
  by_cases hF : FewD ds
  · have cF : ∀ w1, Below w.heap.size w w1 → Calls Tryd.prog 9 #[.slice bo m cap'] w1 fun e w' => e = .returned (.bool true) ∧ w1 = w' := fun w1 hb => few_yes bo m cap' A N C ds w1 (hd.below hb) hm hF
    by_cases h60 : n ≤ 60
    · have h60' : ¬ ((60 : Int) < (n : Int)) := by omega
      by_cases hR : RightP f t (spL l) ∧ HoldB l ds
      · have cW : ∀ w1, Below w.heap.size w w1 → Calls Tryd.prog 11 #[.int .i64 f, .int .i64 t, .slice ao n cap, .slice bo m cap'] w1 fun e w' => ∃ xg hg zs, e = .returned (.tuple #[.slice (some ⟨xg, 0, none⟩) (8 * (t - f).toNat) (8 * (t - f).toNat), .slice (some ⟨hg, 0, none⟩) 7 7, .int .i64 0]) ∧ HeapB f t l ds zs ∧ Sl .u8 w' (some ⟨xg, 0, none⟩) (8 * (t - f).toNat) (8 * (t - f).toNat) zs ∧ Below w1.heap.size w1 w' := fun w1 hb =>
          (write_ok f t ao n cap l bo m cap' A N C ds w1 (T.kept hb) (h.below hb) (hd.below hb) (by omega) hm hR.1 hR.2).mono (by rintro e w' ⟨xg, hg, zs, rfl, k1, k2, k3, _, k4⟩; exact ⟨xg, hg, zs, rfl, k1, k2.sl, k4⟩)
        obtain ⟨hf0, hft, ht2, _, ht4⟩ := id hR.1.1
        have e0 : ((0 : Int) != 0) = false := rfl
        obtain ⟨M, hM⟩ : ∃ M, 8 * (t - f).toNat = M := ⟨_, rfl⟩
        rw [hM] at cW
        have hMl : M ≤ 16384 := by omega
        have w1 : IntKind.i64.wrap (t - f) = t - f := IntWalk.i64_in _ ⟨by omega, by omega⟩
        have HDB := hid hd.bytes
        have Hmn : Hid (m = n) := hid (by have := hR.2.len; omega)
        clear hd hF hR hM T
        have HT4 := hid ht4
        clear ht4
        go_enter Tryd.func6, Tryd.ntmps6
        go_wp2_with (first
          | (go_at_call 8; with_reducible refine cM.mono ?_; rintro e w1 ⟨rfl, hb1⟩)
          | (go_at_call 9; with_reducible refine (cF w1 hb1).mono ?_; rintro e w2 ⟨rfl, rfl⟩)
          | (go_at_call 11; with_reducible refine (cW w1 hb1).mono ?_; rintro e w3 ⟨xg, hg, zs, rfl, k1, k2, hb3⟩))
        have hb13 := next hb1 hb3
        have h3 := h.below hb13
        have HB : Hid (HeapB f t l ds zs) := hid k1
        have hby : Bytes zs := k1.bytes (fun i hi => HDB.out i (by have := Hmn.out; omega))
        have HG : Hid (∀ x, Calls Tryd.prog 23 #[.slice (some ⟨xg, 0, none⟩) M M, .int .i64 x] w3 fun e w' => e = .returned (.tuple #[.int .i64 (getN zs x), .bool (getB zs x)]) ∧ w3 = w') := hid (fun x => get_any _ M M zs x w3 k2 hby (by omega))
        have HS := hid (WkI.start k1)
        clear k1 k2 HB
        go_loop [14, 15, 16] (fun s14 s15 s16 => ∃ (p : Int) (j : Nat) (fr : Bool), s14 = .int .i64 p ∧ s15 = .int .i64 j ∧ s16 = .bool fr ∧ 0 ≤ p ∧ p ≤ t - f ∧ j ≤ n ∧ Hid (WkI f t zs l p j fr)) (fun s14 _ _ => (t - f - intOf s14).toNat)
        case atStart => exact ⟨0, 0, false, rfl, rfl, rfl, Int.le_refl _, by omega, Nat.zero_le _, HS⟩
        case round =>
          obtain ⟨p, j, fr, rfl, rfl, rfl, p0, p1, hj, HI⟩ := hrel
          clear HS
          by_cases hat : p < t - f
          · by_cases hg1 : f + p < nxt l t j
            · obtain ⟨g1, g2, g3, g4, g5⟩ := HI.out.gap HT4.out hg1
              have hnx := HI.out.next
              obtain ⟨z, hz⟩ : ∃ z, nxt l t j - (f + p) = z := ⟨_, rfl⟩
              rw [hz] at g2 g3 g4
              have hgb1 := getB_of (zs := zs) (x := p) (by rw [g2]; omega)
              have hgb2 := getB_of (zs := zs) (x := p + z - 1) (by rw [g3]; omega)
              have c1 := HG.out p
              have c2 := HG.out (p + z - 1)
              rw [g2, hgb1] at c1
              rw [g3, hgb2] at c2
              have HI2 : Hid (WkI f t zs l (p + z) j true) := hid (by
                have e : nxt l t j - f = p + z := by omega
                rw [← e]; exact g5)
              have hz2 : z ≤ t - f - p := by omega
              have hz3 : ¬ (t - f - p < z) := by omega
              obtain ⟨x, hx⟩ : ∃ x, 64 * z = x := ⟨_, rfl⟩
              rw [hx] at c1 c2
              have x0 : 0 ≤ x := by omega
              have xz : x / 64 = z := by omega
              have xr : x % 64 = 0 := by omega
              have xz' : x.tdiv 64 = z := by rw [Int.tdiv_eq_ediv_of_nonneg x0]; exact xz
              have xr' : x.tmod 64 = 0 := by rw [Int.tmod_eq_emod_of_nonneg x0]; exact xr
              have z4 : ¬ z < 4 := by omega
              have a1 : IntKind.i64.wrap (t - f - p) = t - f - p := IntWalk.i64_in _ ⟨by omega, by omega⟩
              have a2 : IntKind.i64.wrap (p + z) = p + z := IntWalk.i64_in _ ⟨by omega, by omega⟩
              have a3 : IntKind.i64.wrap (p + z - 1) = p + z - 1 := IntWalk.i64_in _ ⟨by omega, by omega⟩
              have xx : (x != x) = false := by simp
              subst g1
              clear HI HG hg1 g2 g3 g5 hnx hz hx hgb1 hgb2 h3 HDB h
              go_wp2_with (first
                | (go_at_call 23; with_reducible refine c1.mono ?_; rintro e w' ⟨rfl, rfl⟩; clear c1)
                | (go_at_call 23; with_reducible refine c2.mono ?_; rintro e w' ⟨rfl, rfl⟩; clear c2))
              go_round
              case rel => exact ⟨p + z, j, true, rfl, rfl, rfl, by omega, by omega, hj, HI2⟩
              case measure => simp [intOf]; omega
            · obtain ⟨u1, u2, u3, u4, u5, u6, u7, u8, u9⟩ := HI.out.used hg1 hat
              have hjn : j < n := by omega
              obtain ⟨b, off, rfl, _, _⟩ := h3.here (by omega)
              obtain ⟨c0, c1', c2'⟩ := h3.at (Below.refl _ _) hjn
              have hgb1 := getB_of (zs := zs) (x := p) (by rw [u3]; unfold Blk.tag; omega)
              have hgb2 := getB_of (zs := zs) (x := p + (ba l j).sz - 1) (by rw [u4]; unfold Blk.tag; omega)
              have c1 := HG.out p
              have c2 := HG.out (p + (ba l j).sz - 1)
              rw [u3, hgb1] at c1
              rw [u4, hgb2] at c2
              have HI2 := hid u9
              have hq := tag_two u7 u8
              have x0 : 0 ≤ (ba l j).tag := by unfold Blk.tag; omega
              clear HI HG hg1 u3 u4 u9 hgb1 hgb2 h3 h HDB
              generalize ba l j = s at *
              generalize s.tag = x at *
              obtain ⟨ps, z, ix⟩ := s
              simp only at *
              obtain ⟨r, hr⟩ : ∃ r, x % 64 = r := ⟨_, rfl⟩
              rw [hr] at hq
              obtain ⟨xz, xi, xr⟩ := hq
              have xz' : x.tdiv 64 = z := by rw [Int.tdiv_eq_ediv_of_nonneg x0]; exact xz
              have xr' : x.tmod 64 = r := by rw [Int.tmod_eq_emod_of_nonneg x0]; exact hr
              have z4 : ¬ z < 4 := by omega
              have hz3 : ¬ (t - f - p < z) := by omega
              have a1 : IntKind.i64.wrap (t - f - p) = t - f - p := IntWalk.i64_in _ ⟨by omega, by omega⟩
              have a2 : IntKind.i64.wrap (p + z) = p + z := IntWalk.i64_in _ ⟨by omega, by omega⟩
              have a3 : IntKind.i64.wrap (p + z - 1) = p + z - 1 := IntWalk.i64_in _ ⟨by omega, by omega⟩
              have a4 : IntKind.i64.wrap (f + p) = f + p := IntWalk.i64_in _ ⟨by omega, by omega⟩
              have a5 : IntKind.i64.wrap (r - 1) = r - 1 := IntWalk.i64_in _ ⟨by omega, by omega⟩
              have a6 : IntKind.i64.wrap ((j : Int) + 1) = (j : Int) + 1 := IntWalk.i64_in _ ⟨by omega, by omega⟩
              have xx : (x != x) = false := by simp
              have v1 : (ps != f + p) = false := by simp; omega
              have v2 : (z != z) = false := by simp
              have v3 : (ix != r - 1) = false := by simp; omega
              have v4 : (r == 0) = false := by simp; omega
              have hji : (j : Int) < (n : Int) := by omega
              have hji2 : ¬ ((n : Int) ≤ (j : Int)) := by omega
              clear xi u2
              go_wp2_with (first
                | (go_at_call 23; with_reducible refine c1.mono ?_; rintro e w' ⟨rfl, rfl⟩; clear c1)
                | (go_at_call 23; with_reducible refine c2.mono ?_; rintro e w' ⟨rfl, rfl⟩; clear c2))
              go_round
              case rel => exact ⟨p + z, j + 1, false, rfl, by go_num, by simp [v4], by omega, by omega, by omega, HI2⟩
              case measure => simp [intOf]; omega
          · obtain ⟨e1, e2⟩ := HI.out.end hat
            subst e1
            have hjn : j = n := by omega
            have v1 : (t - f == t - f) = true := by simp
            have v2 : ((j : Int) == (n : Int)) = true := by simp; omega
            clear HI HG h3 h e2 hjn
            go_wp2
            go_ret
            exact ⟨rfl, hb13⟩
      · have cW : ∀ w1, Below w.heap.size w w1 → Calls Tryd.prog 11 #[.int .i64 f, .int .i64 t, .slice ao n cap, .slice bo m cap'] w1 fun e w' => e = .returned (.tuple #[.slice none 0 0, .slice none 0 0, .int .i64 1]) ∧ Below w1.heap.size w1 w' := fun w1 hb => write_bad f t ao n cap l bo m cap' A N C ds w1 (h.below hb) (hd.below hb) (by omega) hm hR
        have e0 : ((1 : Int) != 0) = true := rfl
        clear h hd hF hR
        go_enter Tryd.func6, Tryd.ntmps6
        go_wp2_with (first
          | (go_at_call 8; with_reducible refine cM.mono ?_; rintro e w1 ⟨rfl, hb1⟩)
          | (go_at_call 9; with_reducible refine (cF w1 hb1).mono ?_; rintro e w2 ⟨rfl, rfl⟩)
          | (go_at_call 11; with_reducible refine (cW w1 hb1).mono ?_; rintro e w3 ⟨rfl, hb3⟩))
        go_ret
        exact ⟨rfl, next hb1 hb3⟩
    · have h60' : (60 : Int) < (n : Int) := by omega
      clear h hd hF
      go_enter Tryd.func6, Tryd.ntmps6
      go_wp2_with (first
        | (go_at_call 8; with_reducible refine cM.mono ?_; rintro e w1 ⟨rfl, hb1⟩)
        | (go_at_call 9; with_reducible refine (cF w1 hb1).mono ?_; rintro e w2 ⟨rfl, rfl⟩))
      go_ret
      exact ⟨rfl, hb1⟩
  · have cF : ∀ w1, Below w.heap.size w w1 → Calls Tryd.prog 9 #[.slice bo m cap'] w1 fun e w' => e = .returned (.bool false) ∧ w1 = w' := fun w1 hb => few_no bo m cap' A N C ds w1 (hd.below hb) hm hF
    clear h hd hF
    go_enter Tryd.func6, Tryd.ntmps6
    go_wp2_with (first
      | (go_at_call 8; with_reducible refine cM.mono ?_; rintro e w1 ⟨rfl, hb1⟩)
      | (go_at_call 9; with_reducible refine (cF w1 hb1).mono ?_; rintro e w2 ⟨rfl, rfl⟩))
    go_ret
    exact ⟨rfl, hb1⟩
end Go.Proofs.YtclkooaepfedaaaDoor
