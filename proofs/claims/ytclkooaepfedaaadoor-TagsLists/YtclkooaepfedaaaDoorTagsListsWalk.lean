/- 'TagsLists' walked: the lists' sizes rise, each head is the first free block of its list. -/
import Derived.Test.YtclkooaepfedaaaDoorTagL
import Derived.Deep.DeepCutAuto
import Derived.BigQuiet
namespace Go.Proofs.YtclkooaepfedaaaDoor
set_option maxRecDepth 100000
open Go.RowKit
set_option linter.unusedVariables false
set_option linter.unusedSimpArgs false
set_option maxRecDepth 100000

set_option maxHeartbeats 4000000 in
theorem tagsLists_walk (w : World) (T : Mst w) (f : Int) (hf : (Lit.int .i64 f).wf = true) (t : Int) (ht : (Lit.int .i64 t).wf = true) (ao : Option Addr) (n cap : Nat) (l : List Blk) (h : Bs w ao n cap l) (hc : cap * 24 ≤ 140737488351232) (bo : Option Addr) (m cap' : Nat) (A : Nat → Option Addr) (N C : Nat → Nat) (ds : List (List Int)) (hd : Rd w bo m cap' A N C ds) (hc' : cap' ≤ 9223372036854775807) (a : Int) (ha : (Lit.int .i64 a).wf = true) (b : Int) (hb : (Lit.int .i64 b).wf = true) :
    Calls Tryd.prog 7 #[.int .i64 f, .int .i64 t, .slice ao n cap, .slice bo m cap', .int .i64 a, .int .i64 b] w fun e w' => e = .returned (.bool true) ∧ Below w.heap.size w w' := by
  have hl := h.len
  have hdl := hd.len
  have hm : m ≤ 9223372036854775807 := by have := hd.room; omega
  have hnn : n ≤ 9223372036854775807 := by have := h.room; omega
  have cM := smallT_any w T
  clear hf ht ha hb
  by_cases hF : FewD ds
  · have cF : ∀ w1, Below w.heap.size w w1 → Calls Tryd.prog 9 #[.slice bo m cap'] w1 fun e w' => e = .returned (.bool true) ∧ w1 = w' := fun w1 hb => few_yes bo m cap' A N C ds w1 (hd.below hb) hm hF
    by_cases h60 : n ≤ 60
    · have h60' : ¬ ((60 : Int) < (n : Int)) := by omega
      have cL : ∀ w1 x, Below w.heap.size w w1 → Calls Tryd.prog 16 #[.int .i64 x] w1 fun e w' => e = .returned (.tuple #[.int .i64 (lsN x), .bool (lsB x)]) ∧ w1 = w' := fun w1 x hb => list_any x w1 (T.kept hb)
      obtain ⟨x, hx⟩ : ∃ x, lsN a = x := ⟨_, rfl⟩
      obtain ⟨y, hy⟩ : ∃ y, lsN b = y := ⟨_, rfl⟩
      have cLa : ∀ w1, Below w.heap.size w w1 → Calls Tryd.prog 16 #[.int .i64 a] w1 fun e w' => e = .returned (.tuple #[.int .i64 (x : Int), .bool (lsB a)]) ∧ w1 = w' := fun w1 hb => by rw [← hx]; exact cL w1 a hb
      have cLb : ∀ w1, Below w.heap.size w w1 → Calls Tryd.prog 16 #[.int .i64 b] w1 fun e w' => e = .returned (.tuple #[.int .i64 (y : Int), .bool (lsB b)]) ∧ w1 = w' := fun w1 hb => by rw [← hy]; exact cL w1 b hb
      have hx7 : (x : Int) < 7 := by have := lsN_lt a; omega
      have hx7' : ¬ ((7 : Int) ≤ (x : Int)) := by omega
      have hx0 : ¬ ((x : Int) < 0) := by omega
      have HXY : Hid (a ≤ b → ¬ ((y : Int) < (x : Int))) := hid (fun h => by have := lsN_mono h; omega)
      clear hx hy
      go_enter Tryd.func7, Tryd.ntmps7
      go_upto_region 7 with (first
        | (go_at_call 8; with_reducible refine cM.mono ?_; rintro e w1 ⟨rfl, hb1⟩; have cLa1 := cLa w1 hb1; have cLb1 := cLb w1 hb1; clear cLa cLb)
        | (go_at_call 9; with_reducible refine (cF w1 hb1).mono ?_; rintro e w2 ⟨rfl, rfl⟩)
        | (go_at_call 16; with_reducible refine cLa1.mono ?_; rintro e w2 ⟨rfl, rfl⟩; clear cLa1)
        | (go_at_call 16; with_reducible refine cLb1.mono ?_; rintro e w2 ⟨rfl, rfl⟩; clear cLb1))
      go_cut [16, 18, 77] (fun _ _ c wx => c = .bool false ∧ w1 = wx)
      case first =>
        clear cF cL h hd
        by_cases h4 : 4 ≤ a
        · have e1 : lsB a = true := decide_eq_true h4
          have e2 : decide (4 ≤ a) = true := decide_eq_true h4
          rw [e1]
          by_cases h4b : 4 ≤ b
          · have e3 : lsB b = true := decide_eq_true h4b
            rw [e3]
            by_cases hab : a ≤ b
            · have e4 := HXY.out hab
              clear HXY
              go_wp2
              go_meet
              exact ⟨by simp; omega, rfl⟩
            · clear HXY
              go_wp2
              go_meet
              exact ⟨by simp; omega, rfl⟩
          · have e3 : lsB b = false := decide_eq_false h4b
            rw [e3]
            clear HXY
            go_wp2
            go_meet
            exact ⟨by simp; omega, rfl⟩
        · have e1 : lsB a = false := decide_eq_false h4
          have e2 : decide (4 ≤ a) = false := decide_eq_false h4
          rw [e1]
          clear HXY
          go_wp2
          go_meet
          exact ⟨by simp; omega, rfl⟩
      case rest =>
        obtain ⟨rfl, rfl⟩ := hcut
        by_cases hR : RightP f t (spL l) ∧ HoldB l ds
        · have cW := write_ok f t ao n cap l bo m cap' A N C ds w1 (T.kept hb1) (h.below hb1) (hd.below hb1) (by omega) hm hR.1 hR.2
          obtain ⟨hf0, hft, ht2, _, ht4⟩ := id hR.1.1
          have HS := hid (LsI.start hR.1)
          have HT4 := hid ht4
          have HT := hid T
          have e0 : ((0 : Int) != 0) = false := rfl
          have e7 : ((7 : Int) != 7) = false := rfl
          obtain ⟨M, hM⟩ : ∃ M, 8 * (t - f).toNat = M := ⟨_, rfl⟩
          rw [hM] at cW
          clear hd hF hR hM T cF cM ht4 HXY hx7 hx7' hx0
          go_wp2_with (first
            | (go_at_call 11; with_reducible refine cW.mono ?_; rintro e w3 ⟨xg, hg, zs, rfl, k1, k2, k3, _, hb3⟩; have K3 := hid k3; clear k1 k2 k3))
          have hb13 := next hb1 hb3
          have H3 := hid (h.below hb13)
          have hbA : Below w3.heap.size w3 (w3.alloc (.cells #[.int .i64 0, .int .i64 0, .int .i64 0, .int .i64 0, .int .i64 0, .int .i64 0, .int .i64 0] 48)) := (Below.refl _ _).alloc (Nat.le_refl _) _
          have HF0 := hid (fst_new w3)
          clear h cW
          go_loopw [22, 24] (fun s22 s24 wr => ∃ (i : Nat) (a : Int) (G : List Spn), i ≤ n + 1 ∧ s24 = .int .i64 i ∧ s22 = .int .i64 a ∧ Hid (LsI f t l i a G) ∧ Hid (Fst wr w3.heap.size (fsL G)) ∧ Below w3.heap.size w3 wr) (fun _ s24 _ => n + 1 - (intOf s24).toNat)
          case atStart => exact ⟨0, f, [], by omega, rfl, rfl, HS, HF0, hbA⟩
          case round =>
            clear HS HF0 hbA
            obtain ⟨i, a, G, hi, rfl, rfl, HI, HFs, hbr⟩ := hrel
            have hT : Mst wr := HT.out.kept (next hb13 hbr)
            by_cases hin : i ≤ n
            · have hii : (i : Int) ≤ (n : Int) := by omega
              have hbd := HI.out.bound HT4.out (by omega)
              have HI2 := hid (HI.out.next (by omega))
              have hlo := HI.out.lo
              have hgp := hid HI.out.pos
              obtain ⟨e, he⟩ : ∃ e, nxt l t i = e := ⟨_, rfl⟩
              rw [he] at hbd HI2
              have cL2 : Calls Tryd.prog 16 #[.int .i64 (e - a)] wr fun r w' => r = .returned (.tuple #[.int .i64 (lsN (e - a) : Int), .bool (lsB (e - a))]) ∧ wr = w' := list_any (e - a) wr hT
              by_cases hiu : i < n
              · have hiui : (i : Int) < (n : Int) := by omega
                obtain ⟨b', off, rfl, hbl, _⟩ := H3.out.here (by omega)
                obtain ⟨c0, c1, c2⟩ := H3.out.at hbr hiu
                have hli : i < l.length := by omega
                rw [if_pos hli] at HI2
                have hep : (ba l i).pos = e := by rw [← he, nxt_t hli]
                have hlay := HI2.out.lay (by omega)
                generalize ba l i = s at *
                obtain ⟨ps, z, ix⟩ := s
                simp only at *
                subst hep
                have a3 : IntKind.i64.wrap (ps + z) = ps + z := IntWalk.i64_in _ ⟨by have := HI2.out.lo; omega, by omega⟩
                clear he hlay
                by_cases hae : a < ps
                · obtain ⟨k, hkk⟩ : ∃ k, lsN (ps - a) = k := ⟨_, rfl⟩
                  have hk7 : k < 7 := by rw [← hkk]; exact lsN_lt _
                  have hk7i : (k : Int) < 7 := by omega
                  have hk6 : ¬ ((6 : Int) < (k : Int)) := by omega
                  have hk0 : ¬ ((k : Int) < 0) := by omega
                  have hlb : lsB (ps - a) = true := decide_eq_true (by omega)
                  rw [hkk, hlb] at cL2
                  have a1 : IntKind.i64.wrap (ps - a) = ps - a := IntWalk.i64_in _ ⟨by omega, by omega⟩
                  have a2 : IntKind.i64.wrap (a + 1) = a + 1 := IntWalk.i64_in _ ⟨by omega, by omega⟩
                  have q0 := HFs.out.cell hk7
                  have q1 := HFs.out.free k
                  by_cases hz : fsL G k = 0
                  · have HI3 : Hid (LsI f t l (i + 1) (ps + z) (G ++ [⟨a, ps - a⟩])) := hid (by have := HI2.out; rwa [gap1_t hae] at this)
                    have HFn : Hid (Fst (wr.setCell ⟨w3.heap.size, k, none⟩ (.int .i64 (a + 1))) w3.heap.size (fsL (G ++ [⟨a, ps - a⟩]))) := hid (HFs.out.set hk7 (by rw [← hkk]; exact fs_more0 hgp.out (by rw [hkk]; exact hz)) (fun j _ hj => fs_more hgp.out (by rw [hkk]; exact hj)))
                    have hz1 : (fsL G k == 0) = true := by simpa using hz
                    generalize fsL G k = fz at *
                    have HBn : Hid (Below w3.heap.size w3 (wr.setCell ⟨w3.heap.size, k, none⟩ (.int .i64 (a + 1)))) := hid (hbr.setCell (Nat.le_refl _) _)
                    clear HI HI2 hgp HT H3 K3 hT hkk HFs hz
                    go_wp2_with (go_at_call 16; with_reducible refine cL2.mono ?_; rintro r w' ⟨rfl, rfl⟩)
                    go_quiet (fail)
                    go_wp2
                    go_roundw
                    case rel => exact ⟨i + 1, (ps + z), _, by omega, by go_num, rfl, HI3, hid (HFn.out.kept (below_drewN (Below.refl _ _) _)), below_drewN HBn.out _⟩
                    case measure => simp [intOf]; omega
                  · have HI3 : Hid (LsI f t l (i + 1) (ps + z) (G ++ [⟨a, ps - a⟩])) := hid (by have := HI2.out; rwa [gap1_t hae] at this)
                    have HFn : Hid (Fst wr w3.heap.size (fsL (G ++ [⟨a, ps - a⟩]))) := hid (HFs.out.eq (fun j _ => by
                      by_cases hj : j = lsN (ps - a)
                      · rw [hj]; exact (fs_more1 (s := ⟨a, ps - a⟩) hgp.out (by show fsL G (lsN (ps - a)) ≠ 0; rw [hkk]; exact hz)).symm
                      · exact (fs_more hgp.out hj).symm))
                    have hz1 : (fsL G k == 0) = false := by simpa using hz
                    generalize fsL G k = fz at *
                    clear HI HI2 hgp HT H3 K3 hT hkk HFs hz
                    go_wp2_with (go_at_call 16; with_reducible refine cL2.mono ?_; rintro r w' ⟨rfl, rfl⟩)
                    go_quiet (fail)
                    go_wp2
                    go_roundw
                    case rel => exact ⟨i + 1, (ps + z), _, by omega, by go_num, rfl, HI3, hid (HFn.out.kept (below_drewN (Below.refl _ _) _)), below_drewN hbr _⟩
                    case measure => simp [intOf]; omega
                · have HI3 : Hid (LsI f t l (i + 1) (ps + z) G) := hid (by have := HI2.out; rwa [gap1_f hae, List.append_nil] at this)
                  clear HI HI2 cL2 hgp HT H3 K3 hT
                  go_wp2
                  go_quiet (fail)
                  go_wp2
                  go_roundw
                  case rel => exact ⟨i + 1, (ps + z), G, by omega, by go_num, rfl, HI3, hid (HFs.out.kept (below_drewN (Below.refl _ _) _)), below_drewN hbr _⟩
                  case measure => simp [intOf]; omega
              · have hiui : ¬ ((i : Int) < (n : Int)) := by omega
                have hli : ¬ i < l.length := by omega
                rw [if_neg hli] at HI2
                have hep : t = e := by rw [← he, nxt_f hli]
                subst hep
                clear he
                by_cases hae : a < t
                · obtain ⟨k, hkk⟩ : ∃ k, lsN (t - a) = k := ⟨_, rfl⟩
                  have hk7 : k < 7 := by rw [← hkk]; exact lsN_lt _
                  have hk7i : (k : Int) < 7 := by omega
                  have hk6 : ¬ ((6 : Int) < (k : Int)) := by omega
                  have hk0 : ¬ ((k : Int) < 0) := by omega
                  have hlb : lsB (t - a) = true := decide_eq_true (by omega)
                  rw [hkk, hlb] at cL2
                  have a1 : IntKind.i64.wrap (t - a) = t - a := IntWalk.i64_in _ ⟨by omega, by omega⟩
                  have a2 : IntKind.i64.wrap (a + 1) = a + 1 := IntWalk.i64_in _ ⟨by omega, by omega⟩
                  have q0 := HFs.out.cell hk7
                  have q1 := HFs.out.free k
                  by_cases hz : fsL G k = 0
                  · have HI3 : Hid (LsI f t l (i + 1) a (G ++ [⟨a, t - a⟩])) := hid (by have := HI2.out; rwa [gap1_t hae] at this)
                    have HFn : Hid (Fst (wr.setCell ⟨w3.heap.size, k, none⟩ (.int .i64 (a + 1))) w3.heap.size (fsL (G ++ [⟨a, t - a⟩]))) := hid (HFs.out.set hk7 (by rw [← hkk]; exact fs_more0 hgp.out (by rw [hkk]; exact hz)) (fun j _ hj => fs_more hgp.out (by rw [hkk]; exact hj)))
                    have hz1 : (fsL G k == 0) = true := by simpa using hz
                    generalize fsL G k = fz at *
                    have HBn : Hid (Below w3.heap.size w3 (wr.setCell ⟨w3.heap.size, k, none⟩ (.int .i64 (a + 1)))) := hid (hbr.setCell (Nat.le_refl _) _)
                    clear HI HI2 hgp HT H3 K3 hT hkk HFs hz
                    go_wp2_with (go_at_call 16; with_reducible refine cL2.mono ?_; rintro r w' ⟨rfl, rfl⟩)
                    go_roundw
                    case rel => exact ⟨i + 1, a, _, by omega, by go_num, rfl, HI3, HFn, HBn.out⟩
                    case measure => simp [intOf]; omega
                  · have HI3 : Hid (LsI f t l (i + 1) a (G ++ [⟨a, t - a⟩])) := hid (by have := HI2.out; rwa [gap1_t hae] at this)
                    have HFn : Hid (Fst wr w3.heap.size (fsL (G ++ [⟨a, t - a⟩]))) := hid (HFs.out.eq (fun j _ => by
                      by_cases hj : j = lsN (t - a)
                      · rw [hj]; exact (fs_more1 (s := ⟨a, t - a⟩) hgp.out (by show fsL G (lsN (t - a)) ≠ 0; rw [hkk]; exact hz)).symm
                      · exact (fs_more hgp.out hj).symm))
                    have hz1 : (fsL G k == 0) = false := by simpa using hz
                    generalize fsL G k = fz at *
                    clear HI HI2 hgp HT H3 K3 hT hkk HFs hz
                    go_wp2_with (go_at_call 16; with_reducible refine cL2.mono ?_; rintro r w' ⟨rfl, rfl⟩)
                    go_roundw
                    case rel => exact ⟨i + 1, a, _, by omega, by go_num, rfl, HI3, HFn, hbr⟩
                    case measure => simp [intOf]; omega
                · have HI3 : Hid (LsI f t l (i + 1) a G) := hid (by have := HI2.out; rwa [gap1_f hae, List.append_nil] at this)
                  clear HI HI2 cL2 hgp HT H3 K3 hT
                  go_wp2
                  go_roundw
                  case rel => exact ⟨i + 1, a, G, by omega, by go_num, rfl, HI3, HFs, hbr⟩
                  case measure => simp [intOf]; omega
            · obtain rfl : i = n + 1 := by omega
              have hii : ¬ (((n + 1 : Nat) : Int) ≤ (n : Int)) := by omega
              have hG := HI.out.fin (by omega)
              subst hG
              have Hw := hid (next hb13 hbr)
              have Kr := hid (K3.out.below hbr)
              clear HI HT H3 K3 hT hb13
              go_wp2
              go_loopw [28] (fun s28 w5 => ∃ k : Nat, k ≤ 7 ∧ s28 = .int .i64 k ∧ Below wr.heap.size wr w5) (fun s28 _ => 7 - (intOf s28).toNat)
              case atStart => exact ⟨0, by omega, rfl, Below.refl _ _⟩
              case round =>
                obtain ⟨k, hk, rfl, hb5⟩ := hrel
                by_cases hk7 : k < 7
                · have hk7i : (k : Int) < 7 := by omega
                  have q0 := (HFs.out.kept hb5).cell hk7
                  obtain ⟨b', o', e', _, hcc⟩ := (Kr.out.below hb5).here (by omega)
                  cases e'
                  have q1 := hcc k hk7
                  rw [Nat.zero_add, hdL_at _ hk7] at q1
                  generalize fsL (gapsL f t (spL l)) k = v at *
                  have vv : (v != v) = false := by simp
                  clear hcc HFs Kr
                  go_wp2
                  go_quiet (fail)
                  go_wp2
                  go_roundw
                  case rel => exact ⟨k + 1, by omega, by go_num, below_drewN hb5 _⟩
                  case measure => simp [intOf]; omega
                · obtain rfl : k = 7 := by omega
                  clear HFs Kr
                  go_wp2
                  go_ret
                  exact ⟨rfl, next Hw.out hb5⟩
        · have cW := write_bad f t ao n cap l bo m cap' A N C ds w1 (h.below hb1) (hd.below hb1) (by omega) hm hR
          have e0 : ((1 : Int) != 0) = true := rfl
          clear h hd hF hR
          go_wp2_with (first
            | (go_at_call 11; with_reducible refine cW.mono ?_; rintro e w3 ⟨rfl, hb3⟩))
          go_ret
          exact ⟨rfl, next hb1 hb3⟩
    · have h60' : (60 : Int) < (n : Int) := by omega
      clear h hd hF
      go_enter Tryd.func7, Tryd.ntmps7
      go_wp2_with (first
        | (go_at_call 8; with_reducible refine cM.mono ?_; rintro e w1 ⟨rfl, hb1⟩)
        | (go_at_call 9; with_reducible refine (cF w1 hb1).mono ?_; rintro e w2 ⟨rfl, rfl⟩))
      go_ret
      exact ⟨rfl, hb1⟩
  · have cF : ∀ w1, Below w.heap.size w w1 → Calls Tryd.prog 9 #[.slice bo m cap'] w1 fun e w' => e = .returned (.bool false) ∧ w1 = w' := fun w1 hb => few_no bo m cap' A N C ds w1 (hd.below hb) hm hF
    clear h hd hF
    go_enter Tryd.func7, Tryd.ntmps7
    go_wp2_with (first
      | (go_at_call 8; with_reducible refine cM.mono ?_; rintro e w1 ⟨rfl, hb1⟩)
      | (go_at_call 9; with_reducible refine (cF w1 hb1).mono ?_; rintro e w2 ⟨rfl, rfl⟩))
    go_ret
    exact ⟨rfl, hb1⟩
end Go.Proofs.YtclkooaepfedaaaDoor
