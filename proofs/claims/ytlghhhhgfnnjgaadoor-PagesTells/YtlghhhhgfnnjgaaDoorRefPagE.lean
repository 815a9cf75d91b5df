/- joistref13.Mates by its contract. -/
import Derived.Test.YtlghhhhgfnnjgaaDoorRefPagD
import Derived.Test.YtlghhhhgfnnjgaaDoorAppI
namespace Go.Proofs.YtlghhhhgfnnjgaaDoor
set_option maxRecDepth 100000
open Go.RowKit
set_option linter.unusedVariables false
set_option linter.unusedSimpArgs false
set_option maxRecDepth 100000

set_option maxHeartbeats 1000000 in
theorem rmates_ps (P : Int) (hP : P ≤ 9223372036854775807) (ao : Option Addr) (n cap : Nat) (l : List Spn) (pg : Int) (hpg : Rg pg) (w : World) (h : Ps w ao n cap l) (hn : n ≤ 8796093022208) :
    Calls Tryd.prog 16 #[.int .i64 P, .slice ao n cap, .int .i64 pg] w fun e w' => ∃ bo m c, e = .returned (.slice bo m c) ∧ Own .i64 3 w.heap.size w' bo m c (mtL P l pg) ∧ Below w.heap.size w w' := by
  have hl := h.len
  have cK := rkinds_ps P ao n cap l w h (by omega)
  unfold Rg at hpg
  by_cases hr : RightO P l
  · rw [(kz_t hr).2] at cK
    rw [mt_t hr]
    have HRR := hid hr
    have HIN : Hid (∀ i, i < n → InC P (pa l i)) := hid (fun i hi => hr.lie _ (pa_mem (by omega)))
    clear hr
    go_enter Tryd.func16, Tryd.ntmps16
    go_wp2_with (go_at_call 11; with_reducible refine cK.mono ?_; rintro e w1 ⟨bo, m, c, rfl, ho1, hb1⟩; clear ho1)
    go_loopw [9, 10] (fun s9 s10 wr => ∃ (i : Nat) (bo : Option Addr) (m c : Nat), i ≤ n ∧ s9 = .slice bo m c ∧ s10 = .int .i64 i ∧ m ≤ i ∧ Hid (Own .i64 3 w.heap.size wr bo m c (mtK l pg i)) ∧ Below w.heap.size w wr) (fun _ s10 _ => n - (intOf s10).toNat)
    case atStart => exact ⟨0, none, 0, 0, Nat.zero_le _, rfl, rfl, Nat.le_refl _, hid (own_nil _ _ _ _), hb1⟩
    case round =>
      obtain ⟨i, b2, m2, c2, hi, rfl, rfl, hm, HO, hb⟩ := hrel
      by_cases hlt : i < n
      · obtain ⟨b, o, rfl, hbl, _⟩ := h.here (by omega)
        obtain ⟨c0, c1⟩ := h.at hb hlt
        have hii : (i : Int) < (n : Int) := by omega
        have hrg := h.rgs hlt
        have cS := rspan_any P (pa l i) wr hrg hP
        have hin := HIN.out i hlt
        rw [inB_t hin, spO_in hin] at cS
        obtain ⟨hw1, hw2⟩ := hin.within
        obtain ⟨hk1, hk2⟩ := hin.pgk
        have HY : Hid (HasC (pa l i) pg → mtK l pg (i + 1) = mtK l pg i ++ [(i : Int)]) := hid mt_yes
        have HN : Hid (¬ HasC (pa l i) pg → mtK l pg (i + 1) = mtK l pg i) := hid mt_no
        have HD : Hid (HasC (pa l i) pg ↔ pgA (pa l i) ≤ pg ∧ pg < pgA (pa l i) + pgK (pa l i)) := hid Iff.rfl
        generalize pgA (pa l i) = q at *
        generalize pgK (pa l i) = K at *
        by_cases g1 : q ≤ pg
        · have x1 : IntKind.i64.wrap (pg - q) = pg - q := IntWalk.i64_in _ ⟨by omega, by omega⟩
          by_cases g2 : pg - q < K
          · have HX : Hid (mtK l pg (i + 1) = mtK l pg i ++ [(i : Int)]) := hid (HY.out (HD.out.2 ⟨g1, by omega⟩))
            generalize pa l i = ob at *
            obtain ⟨p, z⟩ := ob
            simp only at c0 c1 cS
            clear HY HN HD HIN HRR h cK hin
            go_wp2_with (first
              | (go_at_call 29; with_reducible refine cS.mono ?_; rintro e w2 ⟨rfl, hb2⟩; have hbA := hb2.alloc hb2.size (.cells #[.int .i64 q, .int .i64 K] 58); have hbB := hbA.alloc hbA.size (.cells #[.int .i64 (i : Int)] 3); have hoB := HO.out.below hbB; have hbw := next hb hbB; have hbz := hbw.size; have HP := hid (sl_int (w2.alloc (.cells #[.int .i64 q, .int .i64 K] 58)) (w2.heap.size + 1) (i : Int) (by simp)))
              | (at_builtin; refine append_il rfl (.tmp 50) (.tmp 52) rfl w.heap.size _ m2 _ rfl hoB.row (some ⟨w2.heap.size + 1, 0, none⟩) 1 1 [(i : Int)] rfl HP.out (by omega) hbz ?_; intro bo3 c3 w3 ho3 hg3 _; have HO3 := hid ho3; have hb3 : Below w.heap.size w w3 := hbw.grown hg3 hbz (fun j hj => (hoB.row.lt j hj).1); clear ho3 hg3))
            go_roundw
            case rel => exact ⟨i + 1, bo3, m2 + 1, c3, by omega, rfl, by go_num, by omega, by rw [HX.out]; exact HO3, hb3⟩
            case measure => simp [intOf]; omega
          · have HX : Hid (mtK l pg (i + 1) = mtK l pg i) := hid (HN.out (fun c => by have := HD.out.1 c; omega))
            generalize pa l i = ob at *
            obtain ⟨p, z⟩ := ob
            simp only at c0 c1 cS
            clear HY HN HD HIN HRR h cK hin
            go_wp2_with (go_at_call 29; with_reducible refine cS.mono ?_; rintro e w2 ⟨rfl, hb2⟩; have hbA := hb2.alloc hb2.size (.cells #[.int .i64 q, .int .i64 K] 58); have HOA := hid (HO.out.below hbA); have hbw := next hb hbA)
            go_roundw
            case rel => exact ⟨i + 1, b2, m2, c2, by omega, rfl, by go_num, by omega, by rw [HX.out]; exact HOA, hbw⟩
            case measure => simp [intOf]; omega
        · have HX : Hid (mtK l pg (i + 1) = mtK l pg i) := hid (HN.out (fun c => g1 (HD.out.1 c).1))
          generalize pa l i = ob at *
          obtain ⟨p, z⟩ := ob
          simp only at c0 c1 cS
          clear HY HN HD HIN HRR h cK hin
          go_wp2_with (go_at_call 29; with_reducible refine cS.mono ?_; rintro e w2 ⟨rfl, hb2⟩; have hbA := hb2.alloc hb2.size (.cells #[.int .i64 q, .int .i64 K] 58); have HOA := hid (HO.out.below hbA); have hbw := next hb hbA)
          go_roundw
          case rel => exact ⟨i + 1, b2, m2, c2, by omega, rfl, by go_num, by omega, by rw [HX.out]; exact HOA, hbw⟩
          case measure => simp [intOf]; omega
      · obtain rfl : i = n := by omega
        have HE : Hid (mtK l pg i = mtK l pg l.length) := hid (by rw [hl])
        clear h cK HIN HRR
        go_wp2
        go_ret
        exact ⟨b2, m2, c2, rfl, by rw [← HE.out]; exact HO.out, hb⟩
  · rw [(kz_f hr).2] at cK
    rw [mt_f hr]
    clear h hr
    go_enter Tryd.func16, Tryd.ntmps16
    go_wp2_with (go_at_call 11; with_reducible refine cK.mono ?_; rintro e w1 ⟨bo, m, c, rfl, ho1, hb1⟩; clear ho1)
    go_loopw [9, 10] (fun s9 s10 wr => s9 = .slice none 0 0 ∧ s10 = .int .i64 0 ∧ w1 = wr) (fun _ s10 _ => 0)
    case atStart => exact ⟨rfl, rfl, rfl⟩
    case round =>
      obtain ⟨rfl, rfl, rfl⟩ := hrel
      by_cases h0 : (0 : Int) < n
      · go_wp2
        go_ret
        exact ⟨none, 0, 0, rfl, own_nil _ _ _ _, hb1⟩
      · obtain rfl : n = 0 := by omega
        go_wp2
        go_ret
        exact ⟨none, 0, 0, rfl, own_nil _ _ _ _, hb1⟩
end Go.Proofs.YtlghhhhgfnnjgaaDoor
