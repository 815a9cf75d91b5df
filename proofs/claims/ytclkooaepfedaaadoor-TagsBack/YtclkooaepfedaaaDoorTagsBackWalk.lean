/- 'TagsBack' walked: what is written is read, and the other way round. -/
import Derived.Test.YtclkooaepfedaaaDoorTagW
import Derived.Test.YtclkooaepfedaaaDoorRefTagA
import Derived.Test.YtclkooaepfedaaaDoorSame
import Derived.BigQuiet
namespace Go.Proofs.YtclkooaepfedaaaDoor
set_option maxRecDepth 100000
open Go.RowKit
set_option linter.unusedVariables false
set_option linter.unusedSimpArgs false
set_option maxRecDepth 100000

/-- Read of what is a heap, and what is written again. -/
theorem back_read (f t : Int) (yo : Option Addr) (ny yc : Nat) (ys : List Int) (ho : Option Addr) (nh hc : Nat) (hs : List Int) (L : List Blk) (w : World) (T : Mst w) (hy : Sl .u8 w yo ny yc ys) (hyb : Bytes ys) (hyc : yc ≤ 9223372036854775807) (hh : Sl .i64 w ho nh hc hs) (hhn : nh ≤ 140737488355328) (hH : IsHeap f t ys hs L) :
    Calls Tryd.prog 18 #[.int .i64 f, .int .i64 t, .slice yo ny yc, .slice ho nh hc] w fun e w' => ∃ uo uc dg dc A N C, e = .returned (.tuple #[.slice uo L.length uc, .slice (some ⟨dg, 0, none⟩) L.length dc, .bool true]) ∧ Bs w' uo L.length uc L ∧ Rd w' (some ⟨dg, 0, none⟩) L.length dc A N C (fullD f ys L) ∧ OwD w.heap.size w' (some ⟨dg, 0, none⟩) L.length dc A N C (fullD f ys L) L.length ∧ L.length ≤ 512 ∧ Below w.heap.size w w' := by
  refine (read_ok f t yo ny yc ys ho nh hc hs L w T hy hyb hyc hh hhn hH).mono ?_
  rintro e w' ⟨uo, uc, dg, dc, A, N, C, rfl, k1, k2, k3⟩
  have hl := hH.ok.1.right.len
  rw [spL_length] at hl
  exact ⟨uo, uc, dg, dc, A, N, C, rfl, k1.bs, k2.rd (fullD_length _ _ _) (fun i hi => by rw [da_full f ys L hi]; exact inL_bytes hyb), k2, hl, k3⟩
theorem back_write (f t : Int) (ny : Nat) (ys hs : List Int) (L : List Blk) (uo : Option Addr) (uc dg dc : Nat) (A : Nat → Option Addr) (N C : Nat → Nat) (w : World) (T : Mst w) (hny : ys.length = ny) (hu : Bs w uo L.length uc L) (hd : Rd w (some ⟨dg, 0, none⟩) L.length dc A N C (fullD f ys L)) (hl : L.length ≤ 512) (hH : IsHeap f t ys hs L) :
    Calls Tryd.prog 11 #[.int .i64 f, .int .i64 t, .slice uo L.length uc, .slice (some ⟨dg, 0, none⟩) L.length dc] w fun e w' => ∃ xg hg, e = .returned (.tuple #[.slice (some ⟨xg, 0, none⟩) ny ny, .slice (some ⟨hg, 0, none⟩) 7 7, .int .i64 0]) ∧ Sl .u8 w' (some ⟨xg, 0, none⟩) ny ny ys ∧ Sl .i64 w' (some ⟨hg, 0, none⟩) 7 7 hs ∧ Below w.heap.size w w' := by
  have hok := hH.ok
  have hyl := hok.1.len
  refine (write_ok f t uo L.length uc L _ L.length dc A N C (fullD f ys L) w T hu hd (by omega) (by omega) hok.1.right hok.1.hold).mono ?_
  rintro e w' ⟨xg, hg, zs, rfl, k1, k2, k3, _, k4⟩
  obtain rfl := heap_one k1 hok.1
  have e1 : 8 * (t - f).toNat = ny := by omega
  rw [e1] at k2 ⊢
  rw [← hok.2] at k3
  exact ⟨xg, hg, rfl, k2.sl, k3, k4⟩
set_option maxHeartbeats 8000000 in
theorem tagsBack_walk (w : World) (T : Mst w) (f : Int) (hf : (Lit.int .i64 f).wf = true) (t : Int) (ht : (Lit.int .i64 t).wf = true) (ao : Option Addr) (n cap : Nat) (l : List Blk) (h : Bs w ao n cap l) (hc : cap * 24 ≤ 140737488351232) (bo : Option Addr) (m cap' : Nat) (A : Nat → Option Addr) (N C : Nat → Nat) (ds : List (List Int)) (hd : Rd w bo m cap' A N C ds) (hc' : cap' ≤ 9223372036854775807) (yo : Option Addr) (ny yc : Nat) (ys : List Int) (hy : Sl .u8 w yo ny yc ys) (hyw : ∀ z ∈ ys, (Lit.int .u8 z).wf = true) (hyc : yc * 1 ≤ 140737488351232) (ho : Option Addr) (nh hhc : Nat) (hs : List Int) (hh : Sl .i64 w ho nh hhc hs) (hhw : ∀ z ∈ hs, (Lit.int .i64 z).wf = true) (hhr : hhc * 8 ≤ 140737488351232) :
    Calls Tryd.prog 5 #[.int .i64 f, .int .i64 t, .slice ao n cap, .slice bo m cap', .slice yo ny yc, .slice ho nh hhc] w fun e w' => e = .returned (.bool true) ∧ Below w.heap.size w w' := by
  have hl := h.len
  have hdl := hd.len
  have hm : m ≤ 9223372036854775807 := by have := hd.room; omega
  have hnn : n ≤ 9223372036854775807 := by have := h.room; omega
  have hyr := hy.room
  have hhr' := hh.room
  have hyb : Bytes ys := bytes_wf hyw
  have cM := smallT_any w T
  clear hf ht hyw hhw
  by_cases hF : FewD ds
  · have cF : ∀ w1, Below w.heap.size w w1 → Calls Tryd.prog 9 #[.slice bo m cap'] w1 fun e w' => e = .returned (.bool true) ∧ w1 = w' := fun w1 hb => few_yes bo m cap' A N C ds w1 (hd.below hb) hm hF
    by_cases h60 : n ≤ 60
    · have h60' : ¬ ((60 : Int) < (n : Int)) := by omega
      by_cases hy32 : ny ≤ 32768
      · have hy32' : ¬ ((32768 : Int) < (ny : Int)) := by omega
        by_cases hR : RightP f t (spL l) ∧ HoldB l ds
        · have cW : ∀ w1, Below w.heap.size w w1 → Calls Tryd.prog 11 #[.int .i64 f, .int .i64 t, .slice ao n cap, .slice bo m cap'] w1 fun e w' => ∃ xg hg zs, e = .returned (.tuple #[.slice (some ⟨xg, 0, none⟩) (8 * (t - f).toNat) (8 * (t - f).toNat), .slice (some ⟨hg, 0, none⟩) 7 7, .int .i64 0]) ∧ HeapB f t l ds zs ∧ Sl .u8 w' (some ⟨xg, 0, none⟩) (8 * (t - f).toNat) (8 * (t - f).toNat) zs ∧ Sl .i64 w' (some ⟨hg, 0, none⟩) 7 7 (hdL (gapsL f t (spL l))) ∧ Below w1.heap.size w1 w' := fun w1 hb =>
            (write_ok f t ao n cap l bo m cap' A N C ds w1 (T.kept hb) (h.below hb) (hd.below hb) (by omega) hm hR.1 hR.2).mono (by rintro e w' ⟨xg, hg, zs, rfl, k1, k2, k3, _, k4⟩; exact ⟨xg, hg, zs, rfl, k1, k2.sl, k3, k4⟩)
          obtain ⟨hf0, hft, ht2, _, _⟩ := id hR.1.1
          obtain ⟨M, hM⟩ : ∃ M, 8 * (t - f).toNat = M := ⟨_, rfl⟩
          rw [hM] at cW
          have hMl : M ≤ 16384 := by omega
          have Hmn : Hid (m = n) := hid (by have := hR.2.len; omega)
          have hnm : ((n : Int) != (m : Int)) = false := by have := Hmn.out; simp; omega
          have hsz : Hid (∀ i, i < n → 4 ≤ (ba l i).sz ∧ (ba l i).sz ≤ 2048) := hid (fun i hi => by have := blk_fit hR.1 (i := i) (by omega); omega)
          have HRd : Hid (∀ w3 xg hg zs, Below w.heap.size w w3 → HeapB f t l ds zs → Sl .u8 w3 (some ⟨xg, 0, none⟩) M M zs → Sl .i64 w3 (some ⟨hg, 0, none⟩) 7 7 (hdL (gapsL f t (spL l))) → Calls Tryd.prog 18 #[.int .i64 f, .int .i64 t, .slice (some ⟨xg, 0, none⟩) M M, .slice (some ⟨hg, 0, none⟩) 7 7] w3 fun e w' => ∃ uo uc dg dc A N C, e = .returned (.tuple #[.slice uo n uc, .slice (some ⟨dg, 0, none⟩) n dc, .bool true]) ∧ Bs w' uo n uc l ∧ Rd w' (some ⟨dg, 0, none⟩) n dc A N C (fullD f zs l) ∧ OwD w3.heap.size w' (some ⟨dg, 0, none⟩) n dc A N C (fullD f zs l) n ∧ Below w3.heap.size w3 w') := hid (fun w3 xg hg zs hb hH h1 h2 => by
            have hz : Bytes zs := hH.bytes (fun i hi => hd.bytes i (by have := Hmn.out; omega))
            refine (back_read f t _ M M zs _ 7 7 _ l w3 (T.kept hb) h1 hz (by omega) h2 (by omega) ⟨ds, hH, rfl⟩).mono ?_
            rintro e w' ⟨uo, uc, dg, dc, A, N, C, rfl, p1, p2, p3, _, p4⟩
            rw [hl] at p1 p2 p3 ⊢
            exact ⟨uo, uc, dg, dc, A, N, C, rfl, p1, p2, p3, p4⟩)
          have HSm : Hid (∀ w4 uo uc, Below w.heap.size w w4 → Bs w4 uo n uc l → Calls Tryd.prog 20 #[.slice uo n uc, .slice ao n cap] w4 fun e w' => e = .returned (.bool true) ∧ Below w4.heap.size w4 w') := hid (fun w4 uo uc hb h1 => rsame_bs uo n uc ao cap l w4 h1 (h.below hb) (by omega))
          have e0 : ((0 : Int) == 0) = true := rfl
          clear hF hR hM
          go_enter Tryd.func5, Tryd.ntmps5
          go_wp2_with (first
            | (go_at_call 8; with_reducible refine cM.mono ?_; rintro e w1 ⟨rfl, hb1⟩)
            | (go_at_call 9; with_reducible refine (cF w1 hb1).mono ?_; rintro e w2 ⟨rfl, rfl⟩)
            | (go_at_call 11; with_reducible refine (cW w1 hb1).mono ?_; rintro e w3 ⟨xg, hg, xs, rfl, k1, k2, k3, hb3⟩; have hb13 := next hb1 hb3; have cR1 := HRd.out w3 xg hg xs hb13 k1 k2 k3; have K1 := hid k1; clear cW k1 k2 k3)
            | (go_at_call 18; with_reducible refine cR1.mono ?_; rintro e w4 ⟨uo, uc, dg, dc, A4, N4, C4, rfl, p1, p2, p3, hb4⟩; have hb14 := next hb13 hb4; have cS1 := HSm.out w4 uo uc hb14 p1; have P2 := hid p2; have P3 := hid p3; clear cR1 p1 p2 p3)
            | (go_at_call 20; with_reducible refine cS1.mono ?_; rintro e w5 ⟨rfl, hb5⟩; have hb15 := next hb14 hb5; clear cS1))
          clear cM cF HRd HSm hnm
          go_loopw [21] (fun s wr => ∃ k : Nat, k ≤ n ∧ s = .int .i64 k ∧ Below w5.heap.size w5 wr) (fun s _ => n - (intOf s).toNat)
          case atStart => exact ⟨0, Nat.zero_le _, rfl, Below.refl _ _⟩
          case round =>
            obtain ⟨k, hk, rfl, hbr⟩ := hrel
            have hbrw := next hb15 hbr
            by_cases hlt : k < n
            · obtain ⟨b, off, rfl, _, _⟩ := h.here (by omega)
              obtain ⟨b2, off2, rfl, _, _⟩ := hd.here (by have := Hmn.out; omega)
              have hkm : k < m := by have := Hmn.out; omega
              have hki : (k : Int) < (n : Int) := by omega
              have hkmi : (k : Int) < (m : Int) := by omega
              obtain ⟨c0, c1, c2⟩ := h.at hbrw hlt
              have c3 := hd.cell hbrw hkm
              have hb4r := next hb5 hbr
              have c4 := P2.out.cell hb4r hlt
              rw [Nat.zero_add] at c4
              obtain ⟨q1, q2, q3, q4⟩ := full_two K1.out (i := k) (by omega)
              have hrow := (hd.row k hkm)
              have hrl := hrow.len
              have hown := P3.out.own k hlt
              rw [da_full f xs l (by omega)] at hown
              have hol := hown.len
              obtain ⟨z0, z1⟩ := hsz.out k hlt
              have hN4 : N4 k = 8 * ((ba l k).sz - 2).toNat := by omega
              obtain ⟨g4, cc4, hv4⟩ := own_shape hown.row (by omega)
              simp only [Value.slice.injEq] at hv4
              obtain ⟨ea, _, ec⟩ := hv4
              rw [ea] at c4 hown
              have hcap4 := hown.cap_le
              have hslr : ∀ q, Sl .u8 (wr.drewN q) (some ⟨g4, 0, none⟩) (N4 k) (C4 k) (inL f xs (ba l k)) := fun q => hown.sl.below (below_drewN hb4r q)
              have t1 : ∀ q, (convert 26 9 (.slice (some ⟨g4, 0, none⟩) (N k) (C4 k))).run Tryd.prog (wr.drewN q) = .ok (.string (strOfNums (da ds k))) (wr.drewN q) := fun q => by
                have := (hslr q).pre (j := N k) (by omega)
                rw [← hrl, q3, hrl] at this
                exact this.text Tryd.underlying26 Tryd.underlying5 Tryd.underlying9
              have t2 : ∀ q, (convert 26 9 (.slice (A k) (N k) (C k))).run Tryd.prog (wr.drewN q) = .ok (.string (strOfNums (da ds k))) (wr.drewN q) := fun q => (hrow.below (below_drewN hbrw q)).text Tryd.underlying26 Tryd.underlying5 Tryd.underlying9
              have cZ : ∀ q, Calls Tryd.prog 22 #[.slice (if C4 k = N k then some ⟨g4, 0, none⟩ else some ⟨g4, N k, none⟩) (N4 k - N k) (C4 k - N k)] (wr.drewN q) fun e w' => e = .returned (.bool true) ∧ wr.drewN q = w' := fun q => by
                by_cases hcn : C4 k = N k
                · rw [if_pos hcn]
                  have e1 : N4 k - N k = 0 := by omega
                  have e2 : C4 k - N k = 0 := by omega
                  rw [e1, e2]
                  exact zero_any _ 0 0 [] _ (Sl.nul _ (by simp)) (by omega)
                · rw [if_neg hcn]
                  have := zero_any _ _ _ _ _ ((hslr q).post (j := N k) (by omega)) (by omega)
                  rw [Nat.zero_add, ← hrl, q4, hrl] at this
                  exact this
              have d1 : ((N4 k : Int) != 8 * ((ba l k).sz - 2)) = false := by simp; omega
              have d2 : decide ((N4 k : Int) < (N k : Int)) = false := decide_eq_false (by omega)
              have d3 : N k ≤ C4 k := by omega
              have d4 : N k ≤ N4 k := by omega
              have d5 : (N k : Int) ≤ (N4 k : Int) := by omega
              have a1 : IntKind.i64.wrap ((ba l k).sz - 2) = (ba l k).sz - 2 := IntWalk.i64_in _ ⟨by omega, by omega⟩
              have a2 : IntKind.i64.wrap (8 * ((ba l k).sz - 2)) = 8 * ((ba l k).sz - 2) := IntWalk.i64_in _ ⟨by omega, by omega⟩
              have Hbr := hid hbr
              clear hslr hown hrow hrl hol q1 q2 q3 q4 hN4 z0 z1 ea ec hcap4 h hd P2 P3 K1 hy hh T hsz Hmn hyb
              generalize ba l k = s at *
              generalize strOfNums (da ds k) = tx at *
              generalize A k = ak at *
              generalize N k = nk at *
              generalize C k = ck at *
              generalize N4 k = n4 at *
              generalize C4 k = c4' at *
              obtain ⟨ps, z, ix⟩ := s
              simp only at *
              have hss : (tx.toList == tx.toList) = true := by simp
              by_cases hcn : c4' = nk
              · subst hcn
                simp only [if_true, Nat.sub_self] at cZ
                go_wp2
                go_quiet (first | (go_at_call 22; with_reducible refine quiet_same (cZ _)))
                go_wp2
                go_roundw
                case rel => exact ⟨k + 1, by omega, by go_num, below_drewN Hbr.out _⟩
                case measure => simp [intOf]; omega
              · simp only [if_neg hcn] at cZ
                go_wp2
                go_quiet (first | (go_at_call 22; with_reducible refine quiet_same (cZ _)))
                go_wp2
                go_roundw
                case rel => exact ⟨k + 1, by omega, by go_num, below_drewN Hbr.out _⟩
                case measure => simp [intOf]; omega
            · obtain rfl : k = n := by omega
              have hki : ¬ ((k : Int) < (k : Int)) := by omega
              clear h hd P2 P3 K1 hsz Hmn
              by_cases hH : ∃ L, IsHeap f t ys hs L
              · obtain ⟨L, hL⟩ := hH
                have cR2 := back_read f t yo ny yc ys ho nh hhc hs L wr (T.kept hbrw) (hy.below hbrw) hyb (by omega) (hh.below hbrw) (by omega) hL
                have HW2 : Hid (∀ w5 uo uc dg dc A N C, Below w.heap.size w w5 → Bs w5 uo L.length uc L → Rd w5 (some ⟨dg, 0, none⟩) L.length dc A N C (fullD f ys L) → L.length ≤ 512 → Calls Tryd.prog 11 #[.int .i64 f, .int .i64 t, .slice uo L.length uc, .slice (some ⟨dg, 0, none⟩) L.length dc] w5 fun e w' => ∃ xg hg, e = .returned (.tuple #[.slice (some ⟨xg, 0, none⟩) ny ny, .slice (some ⟨hg, 0, none⟩) 7 7, .int .i64 0]) ∧ Sl .u8 w' (some ⟨xg, 0, none⟩) ny ny ys ∧ Sl .i64 w' (some ⟨hg, 0, none⟩) 7 7 hs ∧ Below w5.heap.size w5 w') := hid (fun w5 uo uc dg dc A N C hb h1 h2 h3 => back_write f t ny ys hs L uo uc dg dc A N C w5 (T.kept hb) hy.len h1 h2 h3 hL)
                have Hy := hid hy
                have Hh := hid hh
                have tx : ∀ (w' : World) (a : Option Addr) (n c : Nat), Sl .u8 w' a n c ys → (convert 26 9 (.slice a n c)).run Tryd.prog w' = .ok (.string (strOfNums ys)) w' := fun w' a n c h => h.text Tryd.underlying26 Tryd.underlying5 Tryd.underlying9
                have cS2 : ∀ w6 hg, Below w.heap.size w w6 → Sl .i64 w6 (some ⟨hg, 0, none⟩) 7 7 hs → Calls Tryd.prog 14 #[.slice (some ⟨hg, 0, none⟩) 7 7, .slice ho nh hhc] w6 fun e w' => e = .returned (.bool true) ∧ Below w6.heap.size w6 w' := fun w6 hg hb h1 => by
                  have := same_any _ 7 7 hs ho nh hhc hs w6 h1 (Hh.out.below hb) (by omega) (by omega)
                  rwa [show (hs == hs) = true by simp] at this
                have Hl := hid hbrw
                generalize strOfNums ys = sy at *
                have hss : (sy.toList == sy.toList) = true := by simp
                clear hbr hy hh T hL hyb
                generalize L.length = LL at *
                go_wp2_with (first
                  | (go_at_call 18; with_reducible refine cR2.mono ?_; rintro e w5 ⟨uo5, uc5, dg5, dc5, A5, N5, C5, rfl, p1, p2, _, p3, hb5⟩; have hb5w := next Hl.out hb5; have cW2 := HW2.out w5 uo5 uc5 dg5 dc5 A5 N5 C5 hb5w p1 p2 p3; clear p1 p2)
                  | (go_at_call 11; with_reducible refine cW2.mono ?_; rintro e w6 ⟨xg6, hg6, rfl, p4, p5, hb6⟩; have hb6w := next hb5w hb6; have t1 := tx w6 _ _ _ p4; have t2 := tx w6 _ _ _ (Hy.out.below hb6w); have cS3 := cS2 w6 hg6 hb6w p5; clear p4 p5)
                  | (go_at_call 14; with_reducible refine cS3.mono ?_; rintro e w7 ⟨rfl, hb7⟩))
                go_ret
                exact ⟨rfl, next hb6w hb7⟩
              · have cR2 := read_bad f t yo ny yc ys ho nh hhc hs wr (T.kept hbrw) (hy.below hbrw) hyb (by omega) (by have := hy.room; omega) (hh.below hbrw) (by omega) hH
                have Hl := hid hbrw
                clear hbr hy hh T hH hyb
                go_wp2_with (first
                  | (go_at_call 18; with_reducible refine cR2.mono ?_; rintro e w5 ⟨rfl, hb5⟩; have hb5w := next Hl.out hb5))
                go_ret
                exact ⟨rfl, hb5w⟩
        · have cW : ∀ w1, Below w.heap.size w w1 → Calls Tryd.prog 11 #[.int .i64 f, .int .i64 t, .slice ao n cap, .slice bo m cap'] w1 fun e w' => e = .returned (.tuple #[.slice none 0 0, .slice none 0 0, .int .i64 1]) ∧ Below w1.heap.size w1 w' := fun w1 hb => write_bad f t ao n cap l bo m cap' A N C ds w1 (h.below hb) (hd.below hb) (by omega) hm hR
          have e0 : ((1 : Int) == 0) = false := rfl
          clear h hd hF hR
          go_enter Tryd.func5, Tryd.ntmps5
          go_wp2_with (first
            | (go_at_call 8; with_reducible refine cM.mono ?_; rintro e w1 ⟨rfl, hb1⟩)
            | (go_at_call 9; with_reducible refine (cF w1 hb1).mono ?_; rintro e w2 ⟨rfl, rfl⟩)
            | (go_at_call 11; with_reducible refine (cW w1 hb1).mono ?_; rintro e w3 ⟨rfl, hb3⟩; have hb13 := next hb1 hb3; clear cW))
          by_cases hH : ∃ L, IsHeap f t ys hs L
          · obtain ⟨L, hL⟩ := hH
            have cR2 := back_read f t yo ny yc ys ho nh hhc hs L w3 (T.kept hb13) (hy.below hb13) hyb (by omega) (hh.below hb13) (by omega) hL
            have HW2 : Hid (∀ w5 uo uc dg dc A N C, Below w.heap.size w w5 → Bs w5 uo L.length uc L → Rd w5 (some ⟨dg, 0, none⟩) L.length dc A N C (fullD f ys L) → L.length ≤ 512 → Calls Tryd.prog 11 #[.int .i64 f, .int .i64 t, .slice uo L.length uc, .slice (some ⟨dg, 0, none⟩) L.length dc] w5 fun e w' => ∃ xg hg, e = .returned (.tuple #[.slice (some ⟨xg, 0, none⟩) ny ny, .slice (some ⟨hg, 0, none⟩) 7 7, .int .i64 0]) ∧ Sl .u8 w' (some ⟨xg, 0, none⟩) ny ny ys ∧ Sl .i64 w' (some ⟨hg, 0, none⟩) 7 7 hs ∧ Below w5.heap.size w5 w') := hid (fun w5 uo uc dg dc A N C hb h1 h2 h3 => back_write f t ny ys hs L uo uc dg dc A N C w5 (T.kept hb) hy.len h1 h2 h3 hL)
            have Hy := hid hy
            have Hh := hid hh
            have tx : ∀ (w' : World) (a : Option Addr) (n c : Nat), Sl .u8 w' a n c ys → (convert 26 9 (.slice a n c)).run Tryd.prog w' = .ok (.string (strOfNums ys)) w' := fun w' a n c h => h.text Tryd.underlying26 Tryd.underlying5 Tryd.underlying9
            have cS2 : ∀ w6 hg, Below w.heap.size w w6 → Sl .i64 w6 (some ⟨hg, 0, none⟩) 7 7 hs → Calls Tryd.prog 14 #[.slice (some ⟨hg, 0, none⟩) 7 7, .slice ho nh hhc] w6 fun e w' => e = .returned (.bool true) ∧ Below w6.heap.size w6 w' := fun w6 hg hb h1 => by
              have := same_any _ 7 7 hs ho nh hhc hs w6 h1 (Hh.out.below hb) (by omega) (by omega)
              rwa [show (hs == hs) = true by simp] at this
            have Hl := hid hb13
            generalize strOfNums ys = sy at *
            have hss : (sy.toList == sy.toList) = true := by simp
            clear cM cF hy hh T hL hyb
            generalize L.length = LL at *
            go_wp2_with (first
              | (go_at_call 18; with_reducible refine cR2.mono ?_; rintro e w5 ⟨uo5, uc5, dg5, dc5, A5, N5, C5, rfl, p1, p2, _, p3, hb5⟩; have hb5w := next Hl.out hb5; have cW2 := HW2.out w5 uo5 uc5 dg5 dc5 A5 N5 C5 hb5w p1 p2 p3; clear p1 p2)
              | (go_at_call 11; with_reducible refine cW2.mono ?_; rintro e w6 ⟨xg6, hg6, rfl, p4, p5, hb6⟩; have hb6w := next hb5w hb6; have t1 := tx w6 _ _ _ p4; have t2 := tx w6 _ _ _ (Hy.out.below hb6w); have cS3 := cS2 w6 hg6 hb6w p5; clear p4 p5)
              | (go_at_call 14; with_reducible refine cS3.mono ?_; rintro e w7 ⟨rfl, hb7⟩))
            go_ret
            exact ⟨rfl, next hb6w hb7⟩
          · have cR2 := read_bad f t yo ny yc ys ho nh hhc hs w3 (T.kept hb13) (hy.below hb13) hyb (by omega) (by have := hy.room; omega) (hh.below hb13) (by omega) hH
            have Hl := hid hb13
            clear cM cF hy hh T hH hyb
            go_wp2_with (first
              | (go_at_call 18; with_reducible refine cR2.mono ?_; rintro e w5 ⟨rfl, hb5⟩; have hb5w := next Hl.out hb5))
            go_ret
            exact ⟨rfl, hb5w⟩
      · have hy32' : (32768 : Int) < (ny : Int) := by omega
        clear h hd hF hy hh
        go_enter Tryd.func5, Tryd.ntmps5
        go_wp2_with (first
          | (go_at_call 8; with_reducible refine cM.mono ?_; rintro e w1 ⟨rfl, hb1⟩)
          | (go_at_call 9; with_reducible refine (cF w1 hb1).mono ?_; rintro e w2 ⟨rfl, rfl⟩))
        go_ret
        exact ⟨rfl, hb1⟩
    · have h60' : (60 : Int) < (n : Int) := by omega
      clear h hd hF hy hh
      go_enter Tryd.func5, Tryd.ntmps5
      go_wp2_with (first
        | (go_at_call 8; with_reducible refine cM.mono ?_; rintro e w1 ⟨rfl, hb1⟩)
        | (go_at_call 9; with_reducible refine (cF w1 hb1).mono ?_; rintro e w2 ⟨rfl, rfl⟩))
      go_ret
      exact ⟨rfl, hb1⟩
  · have cF : ∀ w1, Below w.heap.size w w1 → Calls Tryd.prog 9 #[.slice bo m cap'] w1 fun e w' => e = .returned (.bool false) ∧ w1 = w' := fun w1 hb => few_no bo m cap' A N C ds w1 (hd.below hb) hm hF
    clear h hd hF hy hh
    go_enter Tryd.func5, Tryd.ntmps5
    go_wp2_with (first
      | (go_at_call 8; with_reducible refine cM.mono ?_; rintro e w1 ⟨rfl, hb1⟩)
      | (go_at_call 9; with_reducible refine (cF w1 hb1).mono ?_; rintro e w2 ⟨rfl, rfl⟩))
    go_ret
    exact ⟨rfl, hb1⟩
end Go.Proofs.YtclkooaepfedaaaDoor
