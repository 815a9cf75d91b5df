/- 'PagesTells' walked: pages' kinds, where a further object goes and a page's objects are the document's; the objects are neither changed nor kept. -/
import Derived.Test.YtlghhhhgfnnjgaaDoorPagAid
import Derived.Test.YtlghhhhgfnnjgaaDoorRefPagE
import Derived.Test.YtlghhhhgfnnjgaaDoorRefPagF
namespace Go.Proofs.YtlghhhhgfnnjgaaDoor
set_option maxRecDepth 100000
open Go.RowKit
set_option linter.unusedVariables false
set_option linter.unusedSimpArgs false
set_option maxRecDepth 100000

theorem pagesTells_walk (w : World) (T : Cws w) (P : Int) (hw0 : (Lit.int .i64 P).wf = true) (ao : Option Addr) (n cap : Nat) (l : List Spn) (h : Ps w ao n cap l) (hc : cap * 16 ≤ 140737488351232) (z : Int) (hw2 : (Lit.int .i64 z).wf = true) (pg : Int) (hw3 : (Lit.int .i64 pg).wf = true) :
    Calls Tryd.prog 3 #[.int .i64 P, .slice ao n cap, .int .i64 z, .int .i64 pg] w fun e w' => e = .returned (.bool true) ∧ Below w.heap.size w w' := by
  have hroom := h.room
  have hlen := h.len
  obtain ⟨p0, p1⟩ := bounds_i64 hw0
  have hpg : Rg pg := bounds_i64 hw3
  have cS := smallG_any w T
  clear hw0 hw2 hw3
  by_cases hn : 200 < n
  · have hni : (200 : Int) < (n : Int) := by omega
    clear h T
    go_enter Tryd.func3, Tryd.ntmps3
    go_wp2_with (go_at_call 9; with_reducible refine cS.mono ?_; rintro e w1 ⟨rfl, hb1⟩)
    go_ret
    exact ⟨rfl, hb1⟩
  · have hni : ¬ ((200 : Int) < (n : Int)) := by omega
    have hP : P ≤ 9223372036854775807 := by omega
    have cK := fun w' a c (T' : Cws w') (h' : Ps w' a n c l) => kinds_ps P a n c l w' T' h' (by omega)
    have rK := fun w' (h' : Ps w' ao n cap l) => rkinds_ps P ao n cap l w' h' (by omega)
    have cP := fun w' a c (T' : Cws w') (h' : Ps w' a n c l) => place_ps P a n c l z w' T' h' (by omega)
    have rP := fun w' (h' : Ps w' ao n cap l) => rplace_ps P ao n cap l z w' h' (by omega)
    have cM := fun w' a c (T' : Cws w') (h' : Ps w' a n c l) => mates_ps P hP a n c l pg hpg w' T' h' (by omega)
    have rM := fun w' (h' : Ps w' ao n cap l) => rmates_ps P hP ao n cap l pg hpg w' h' (by omega)
    have HPS := hid (fun w' (hb : Below w.heap.size w w') => h.below hb)
    have HT := hid (fun w' (hb : Below w.heap.size w w') => T.kept hb)
    have HL1 := hid (kzL_len P l)
    have HL2 : Hid ((mtL P l pg).length ≤ 200) := hid (by have := mtL_len P l pg; omega)
    have h16 : (0 + n) * 16 ≤ 140737488355328 := by omega
    generalize kzL P l = K at *
    generalize rtO P l = rt at *
    generalize pcN P l z = an at *
    generalize pcB P l z = ab at *
    generalize mtL P l pg = M at *
    clear h T hpg
    have cE := fun w' xs a m c b c' (hx : Sl .i64 w' a m c xs) (hy : Sl .i64 w' b m c' xs) (hm : m ≤ 1000) => same_any a m c xs b m c' xs w' hx hy (by omega) (by omega)
    simp only [BEq.rfl] at cE
    go_enter Tryd.func3, Tryd.ntmps3
    go_wp2_with (first
      | (go_at_call 9; with_reducible refine cS.mono ?_; rintro e w1 ⟨rfl, hb1⟩; have hbA := hb1.alloc hb1.size (.cells #[] 39); have hoE := own_emptyJ w.heap.size w1 hb1.size; have HPA := hid (HPS.out _ hbA); have hszA := hbA.size)
      | (at_builtin; refine append_js rfl (.tmp 25) (.tmp 26) rfl w.heap.size _ 0 [] rfl hoE (by intro x hx; cases hx) ao n cap l rfl HPA.out h16 hszA ?_; intro bi ci w2 ho2 hg2; have hb2 : Below w.heap.size w w2 := hbA.grown hg2 hszA (fun j hj => (hoE.lt j hj).1); have HJ : Hid (Ps w2 bi (0 + n) ci l) := hid ho2.ps; rw [Nat.zero_add] at HJ; clear ho2 hg2; rw [Nat.zero_add])
      | (go_at_call 10; with_reducible refine (cK _ bi ci (HT.out _ hb2) HJ.out).mono ?_; rintro e w3 ⟨b3, m3, c3, rfl, ho3, hb3⟩; have HO3 := hid ho3; clear ho3; have hb3a := next hb2 hb3; have HJ3 := hid (HJ.out.below hb3))
      | (go_at_call 11; with_reducible refine (rK _ (HPS.out _ hb3a)).mono ?_; rintro e w4 ⟨b4, m4, c4, rfl, ho4, hb4⟩; have HO4 := hid ho4; clear ho4; have hb4a := next hb3a hb4; have HJ4 := hid (HJ3.out.below hb4); have HO34 := hid (HO3.out.below hb4))
      | (go_at_call 12; with_reducible refine (cP _ bi ci (HT.out _ hb4a) HJ4.out).mono ?_; rintro e w5 ⟨rfl, hb5⟩; have hb5a := next hb4a hb5; have HJ5 := hid (HJ4.out.below hb5); have HO35 := hid (HO34.out.below hb5); have HO45 := hid (HO4.out.below hb5))
      | (go_at_call 13; with_reducible refine (rP _ (HPS.out _ hb5a)).mono ?_; rintro e w6 ⟨rfl, hb6⟩; have hb6a := next hb5a hb6; have HJ6 := hid (HJ5.out.below hb6); have HO36 := hid (HO35.out.below hb6); have HO46 := hid (HO45.out.below hb6))
      | (go_at_call 14; with_reducible refine (cM _ bi ci (HT.out _ hb6a) HJ6.out).mono ?_; rintro e w7 ⟨b7, m7, c7, rfl, ho7, hb7⟩; have HO7 := hid ho7; clear ho7; have hb7a := next hb6a hb7; have HJ7 := hid (HJ6.out.below hb7); have HO37 := hid (HO36.out.below hb7).sl; have HO47 := hid (HO46.out.below hb7).sl; obtain rfl := HO37.out.len.symm.trans HO47.out.len; have hm3 := HO37.out.len; have hl1 := HL1.out)
      | (go_at_call 15; with_reducible refine (cE _ _ _ _ _ _ _ HO37.out HO47.out (by omega)).mono ?_; rintro e w8 ⟨rfl, hb8⟩; have hb8a := next hb7a hb8; have HJ8 := hid (HJ7.out.below hb8); have HO78 := hid (HO7.out.below hb8).sl)
      | (go_at_call 16; with_reducible refine (rM _ (HPS.out _ hb8a)).mono ?_; rintro e w9 ⟨b9, m9, c9, rfl, ho9, hb9⟩; have HO9 := hid ho9.sl; clear ho9; have hb9a := next hb8a hb9; have HJ9 := hid (HJ8.out.below hb9); have HO79 := hid (HO78.out.below hb9); obtain rfl := HO79.out.len.symm.trans HO9.out.len; have hm9 := HO9.out.len; have hl2 := HL2.out)
      | (go_at_call 15; with_reducible refine (cE _ _ _ _ _ _ _ HO79.out HO9.out (by omega)).mono ?_; rintro e w10 ⟨rfl, hb10⟩; have hb10a := next hb9a hb10; have HJ10 := hid (HJ9.out.below hb10); have HP10 := hid (HPS.out _ hb10a))
      | (go_at_call 17; with_reducible refine (same_js bi n ci l ao cap _ HJ10.out HP10.out (by omega)).mono ?_; rintro e w11 ⟨rfl, hb11⟩))
    go_ret
    exact ⟨rfl, next hb10a hb11⟩
end Go.Proofs.YtlghhhhgfnnjgaaDoor
