/- joistref09.Bytes by its contract. -/
import Derived.Test.YtmefepjjlhphnaaDoorRefRootB
import Derived.Test.YtmefepjjlhphnaaDoorRootD
import Derived.Test.YtmefepjjlhphnaaDoorRefNBytes
import Derived.Test.YtmefepjjlhphnaaDoorMgR
namespace Go.Proofs.YtmefepjjlhphnaaDoor
set_option maxRecDepth 100000
open Go.RowKit
set_option linter.unusedVariables false
set_option linter.unusedSimpArgs false
set_option maxRecDepth 100000

set_option maxHeartbeats 2000000 in
theorem rbytesR_rs (ao : Option Addr) (n cap : Nat) (l : List Rt) (w : World) (h : Rs w ao n cap l) (hn : n ≤ 9223372036854775806) :
    Calls Tryd.prog 11 #[.slice ao n cap] w fun e w' => ∃ bo m c, e = .returned (.tuple #[.slice bo m c, .int .i64 (rbE l)]) ∧ Own .u8 5 w.heap.size w' bo m c (rbL l) ∧ Below w.heap.size w w' := by
  have hl := h.len
  have cR := rrightR_rs ao n cap l w h hn
  by_cases hr : RightR l
  · rw [rightRB_t hr] at cR
    rw [(rb_t hr).1, (rb_t hr).2]
    have hlen := hr.len
    obtain ⟨b, off, rfl, _, _⟩ := h.here (by omega)
    have HR := hid hr
    have hn8 : n ≤ 8 := by omega
    clear hr
    go_enter Tryd.func11, Tryd.ntmps11
    go_wp2_with (first
      | (go_at_call 22; with_reducible refine cR.mono ?_; rintro e w1 ⟨rfl, b1⟩))
    go_loopw [5, 6] (fun s5 s6 wr => ∃ (k : Nat) (bo : Option Addr) (q c : Nat), k ≤ n ∧ Hid (q = k * 32) ∧ s5 = .slice bo q c ∧ s6 = .int .i64 k ∧ Own .u8 5 w.heap.size wr bo q c (rowsR (l.take k)) ∧ Below w.heap.size w wr) (fun _ s6 _ => n - (intOf s6).toNat)
    case atStart => exact ⟨0, none, 0, 0, Nat.zero_le _, hid rfl, rfl, rfl, own_nil _ _ _ _, b1⟩
    case round =>
      obtain ⟨k, bo, q, c, hk, HQ, rfl, rfl, ho, hb⟩ := hrel
      clear b1 cR
      by_cases hlt : k < n
      · have hki : (k : Int) < (n : Int) := by omega
        have hq : q + 32 ≤ 1000 := by have := HQ.out; omega
        have HT := hid (rowsR_take (l := l) (k := k) (by omega))
        have Hat : Hid (∀ wr, Below w.heap.size w wr → R3 wr b (off + k * 3) (ra l k)) := fun wr hb => h.at hb hlt
        have hm := HR.out.may k (by omega)
        have hz : (ra l k).nm.size ≤ 9223372036854775807 := Nat.le_trans hm.le16 (by omega)
        have cB := refBytes_ok (ra l k).nm wr hz hm.okS
        have cO : ∀ w, Calls Tryd.prog 25 #[.slice (some ⟨w.heap.size, 0, none⟩) 2 2] (w.alloc (.cells #[.int .i64 (numR (ra l k)), .int .i64 0] 3)) fun e w' => ∃ ao c, e = .returned (.tuple #[.slice ao 16 c, .int .i64 0]) ∧ Own .u8 5 w.heap.size w' ao 16 c (ofL [numR (ra l k), 0]) ∧ Below w.heap.size w w' := fun w => (refof_any _ 2 2 _ _ (sl_two w (numR (ra l k)) 0) (by omega)).mono (by
          rintro e w' ⟨ao, m, c, rfl, ho, hb⟩
          rw [ofE_t (numR_ok hm)]
          rw [ofR_t (numR_ok hm)] at ho
          obtain rfl : 16 = m := by rw [← ho.len, ofL_length]; rfl
          exact ⟨ao, c, rfl, ho.mono (by simp), next ((Below.refl _ w).alloc (Nat.le_refl _) _) hb⟩)
        have HRow : Hid (rowR (ra l k) = pad (ra l k).nm.data.toList ++ ofL [numR (ra l k), 0]) := hid rfl
        obtain ⟨c0, c1, c2⟩ := h.at hb hlt
        by_cases he : (ra l k).nm = emp
        · have hq1 := emp_e he
          have hN : numR (ra l k) = 0 := by unfold numR; rw [if_pos he]
          rw [hN] at cO HRow
          generalize rowR (ra l k) = R at *
          generalize ofL [0, 0] = T at *
          generalize pad (ra l k).nm.data.toList = Pd at *
          generalize ra l k = r at *
          obtain ⟨nm, ix, gn⟩ := r
          simp only at *
          generalize rowsR (l.take k) = Z at *
          clear h he hN hm
          go_wp2_with (first
            | (go_at_call 23; with_reducible refine cB.mono ?_; rintro e w2 ⟨g2, rfl, p2, hb2⟩; have b2 := next hb hb2; have o2 := ho.below hb2; obtain ⟨d0, d1, d2⟩ := Hat.out w2 b2)
            | (go_at_call 25; with_reducible refine (cO w2).mono ?_; rintro e w3 ⟨a3, k3, rfl, p3, hb3⟩; have b3 := next b2 hb3; have o3 := o2.below hb3; have p23 := p2.below hb3)
            | (at_builtin; refine append_sl rfl (.tmp 52) (.tmp 53) rfl w.heap.size _ q Z rfl o3.row (some ⟨g2, 0, none⟩) 16 16 Pd rfl p23.sl (by omega) b3.size ?_))
          intro bo4 c4 w4 o4 g4 _
          have hlt4 := o3.row.lt
          have b4 : Below w.heap.size w w4 := b3.grown g4 b3.size (by intro j hj; exact (hlt4 j hj).1)
          have hof : Off (fun j => j < w2.heap.size) w3 w4 := Off.of_grown g4 (fun j hj => Or.inl (by have := (o2.row.lt j hj).2; exact this))
          have p4 := p3.off hof (fun a ha => by have := (p3.row.lt a.block (by rw [ha]; rfl)).1; omega)
          clear g4 hlt4 o3 o2 p2 p23 hof
          go_wp2_with (first
            | (at_builtin; refine append_sl rfl (.tmp 54) (.tmp 55) rfl w.heap.size _ (q + 16) (Z ++ Pd) rfl o4.row a3 16 k3 T rfl p4.sl (by omega) b4.size ?_))
          intro bo5 c5 w5 o5 g5 _
          have hlt5 := o4.row.lt
          have b5 : Below w.heap.size w w5 := b4.grown g5 b4.size (by intro j hj; exact (hlt5 j hj).1)
          have o6 : Own .u8 5 w.heap.size w5 bo5 (q + 16 + 16) c5 (rowsR (l.take (k + 1))) := by
            rw [HT.out, HRow.out]; exact o5
          clear o5 g5 hlt5 o4
          go_wp2
          go_roundw
          case rel => exact ⟨k + 1, bo5, q + 16 + 16, c5, by omega, hid (by have := HQ.out; omega), rfl, by go_num, o6, b5⟩
          case measure => simp [intOf]; omega
        · have hq1 := emp_n he
          have hq2 := emp_l he
          have hh := (hm.name he).2
          have hN : numR (ra l k) = codeH (ra l k).ix (ra l k).gn := by unfold numR; rw [if_neg he]
          have cC := refCode_any (ra l k).ix (ra l k).gn
          rw [(cod_t hh).1, (cod_t hh).2, ← hN] at cC
          generalize rowR (ra l k) = R at *
          generalize ofL [numR (ra l k), 0] = T at *
          generalize numR (ra l k) = N at *
          generalize pad (ra l k).nm.data.toList = Pd at *
          generalize ra l k = r at *
          obtain ⟨nm, ix, gn⟩ := r
          simp only at *
          generalize rowsR (l.take k) = Z at *
          clear h he hN hm hh
          go_wp2_with (first
            | (go_at_call 23; with_reducible refine cB.mono ?_; rintro e w1 ⟨g2, rfl, p1, hb1⟩; have b1 := next hb hb1; have o1 := ho.below hb1; obtain ⟨d0, d1, d2⟩ := Hat.out w1 b1)
            | (go_at_call 24; with_reducible refine (cC _).mono ?_; rintro e w2 ⟨rfl, hb2⟩; have b2 := next b1 hb2; have o2 := o1.below hb2; have p2 := p1.below hb2)
            | (go_at_call 25; with_reducible refine (cO w2).mono ?_; rintro e w3 ⟨a3, k3, rfl, p3, hb3⟩; have b3 := next b2 hb3; have o3 := o2.below hb3; have p23 := p2.below hb3)
            | (at_builtin; refine append_sl rfl (.tmp 52) (.tmp 53) rfl w.heap.size _ q Z rfl o3.row (some ⟨g2, 0, none⟩) 16 16 Pd rfl p23.sl (by omega) b3.size ?_))
          intro bo4 c4 w4 o4 g4 _
          have hlt4 := o3.row.lt
          have b4 : Below w.heap.size w w4 := b3.grown g4 b3.size (by intro j hj; exact (hlt4 j hj).1)
          have hof : Off (fun j => j < w2.heap.size) w3 w4 := Off.of_grown g4 (fun j hj => Or.inl (by have := (o2.row.lt j hj).2; exact this))
          have p4 := p3.off hof (fun a ha => by have := (p3.row.lt a.block (by rw [ha]; rfl)).1; omega)
          clear g4 hlt4 o3 o2 o1 p1 p2 p23 hof
          go_wp2_with (first
            | (at_builtin; refine append_sl rfl (.tmp 54) (.tmp 55) rfl w.heap.size _ (q + 16) (Z ++ Pd) rfl o4.row a3 16 k3 T rfl p4.sl (by omega) b4.size ?_))
          intro bo5 c5 w5 o5 g5 _
          have hlt5 := o4.row.lt
          have b5 : Below w.heap.size w w5 := b4.grown g5 b4.size (by intro j hj; exact (hlt5 j hj).1)
          have o6 : Own .u8 5 w.heap.size w5 bo5 (q + 16 + 16) c5 (rowsR (l.take (k + 1))) := by
            rw [HT.out, HRow.out]; exact o5
          clear o5 g5 hlt5 o4
          go_wp2
          go_roundw
          case rel => exact ⟨k + 1, bo5, q + 16 + 16, c5, by omega, hid (by have := HQ.out; omega), rfl, by go_num, o6, b5⟩
          case measure => simp [intOf]; omega
      · obtain rfl : k = n := by omega
        have hki : ¬ ((k : Int) < (k : Int)) := by omega
        have HT : Hid (l.take k = l) := hid (List.take_of_length_le (by omega))
        rw [HT.out] at ho
        go_wp2
        go_ret2
        exact ⟨bo, q, c, rfl, ho, hb⟩
  · rw [rightRB_f hr] at cR
    rw [(rb_f hr).1, (rb_f hr).2]
    clear h hr
    go_enter Tryd.func11, Tryd.ntmps11
    go_wp2_with (first
      | (go_at_call 22; with_reducible refine cR.mono ?_; rintro e w1 ⟨rfl, b1⟩))
    go_ret2
    exact ⟨none, 0, 0, rfl, own_nil _ _ _ _, b1⟩
end Go.Proofs.YtmefepjjlhphnaaDoor
