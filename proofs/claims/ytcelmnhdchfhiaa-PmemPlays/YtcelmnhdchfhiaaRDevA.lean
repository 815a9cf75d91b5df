/- joistref03's small calls by their contracts. -/
import Derived.Test.YtcelmnhdchfhiaaRDev
import Derived.Test.YtcelmnhdchfhiaaApp
namespace Go.Proofs.Ytcelmnhdchfhiaa
open Go.RowKit
set_option linter.unusedVariables false

def raskE (R : RSt) (a n : Int) : Int := if R.down = true then 5 else if a < 0 ∨ n < 0 ∨ n > ((64 * R.n : Nat) : Int) - a then 1 else 0
def rstepS (R : RSt) : RSt := if R.armed = 0 then R else { R with armed := R.armed - 1, down := decide (R.armed = 1) }
def rstepB (R : RSt) : Bool := decide (R.armed = 1)
section
variable {w : World} {G : Nat → Prop} {q : Nat} {R : RSt}
theorem rlines_any (hd : RDev w G q R) : Calls Try.prog 46 #[.pointer (some ⟨q, 0, none⟩)] w fun e w' => e = .returned (.int .i64 R.n) ∧ w = w' := by
  obtain ⟨lb, lc, sb, sc, db, fb, hd⟩ := hd
  obtain ⟨c0, c1, c2, c3, c4, c5⟩ := rdev_cells hd.obj
  have hn := hd.ok.n1
  clear hd
  go_enter Try.func46, Try.ntmps46
  go_wp2
  go_ret
  exact ⟨rfl, rfl⟩
theorem rdown_any (hd : RDev w G q R) : Calls Try.prog 45 #[.pointer (some ⟨q, 0, none⟩)] w fun e w' => e = .returned (.bool R.down) ∧ w = w' := by
  obtain ⟨lb, lc, sb, sc, db, fb, hd⟩ := hd
  obtain ⟨c0, c1, c2, c3, c4, c5⟩ := rdev_cells hd.obj
  clear hd
  go_enter Try.func45, Try.ntmps45
  go_wp2
  go_ret
  exact ⟨rfl, rfl⟩
theorem rimage_any (hd : RDev w G q R) : Calls Try.prog 42 #[.pointer (some ⟨q, 0, none⟩)] w fun e w' => ∃ ao c, e = .returned (.slice ao (64 * R.n) c) ∧ Own .u8 5 w.heap.size w' ao (64 * R.n) c R.lasts ∧ Below w.heap.size w w' := by
  obtain ⟨lb, lc, sb, sc, db, fb, hd⟩ := hd
  have hn := hd.ok.n1
  have hb0 : Below w.heap.size w (w.alloc (.cells #[] 5)) := (Below.refl _ _).alloc (Nat.le_refl _) _
  obtain ⟨c0, _, _, _, _, _⟩ := rdev_cells hd.obj
  have c0' := (hb0.cell (p := ⟨q, 0, none⟩) (hd.bound q hd.gq)).trans c0
  have hs := hd.lasts.sl.below hb0
  have hmade : (w.alloc (.cells #[] 5)).ownsRow w.heap.size 5 1 (.slice (some ⟨w.heap.size, 0, none⟩) 0 0) 0 (([] : List Int).map (Value.int .u8)) := World.ownsRow_made w #[] 0 (Nat.le_refl _) (Nat.zero_le _) rfl
  have hs0 := hb0.size
  obtain ⟨L, hL⟩ : ∃ L, 64 * R.n = L := ⟨_, rfl⟩
  rw [hL] at c0 c0' hs ⊢
  have nL : 0 + L ≤ 140737488355328 := by omega
  clear hL hd c0 hn
  go_enter Try.func42, Try.ntmps42
  go_wp2_with (at_builtin; refine append_sl rfl (.tmp 3) (.tmp 7) rfl w.heap.size _ 0 [] rfl hmade _ L _ R.lasts rfl hs nL hs0 ?_; intro bo c w1 hown hgr _)
  go_ret
  rw [Nat.zero_add, List.nil_append] at hown
  exact ⟨bo, c, by simp, hown, hb0.grown hgr hs0 (fun b hb' => (hmade.lt b hb').1)⟩
theorem rview_any (hd : RDev w G q R) : Calls Try.prog 43 #[.pointer (some ⟨q, 0, none⟩)] w fun e w' => ∃ ao c, e = .returned (.slice ao (64 * R.n) c) ∧ Own .u8 5 w.heap.size w' ao (64 * R.n) c R.seen ∧ Below w.heap.size w w' := by
  obtain ⟨lb, lc, sb, sc, db, fb, hd⟩ := hd
  have hn := hd.ok.n1
  have hb0 : Below w.heap.size w (w.alloc (.cells #[] 5)) := (Below.refl _ _).alloc (Nat.le_refl _) _
  obtain ⟨_, c0, _, _, _, _⟩ := rdev_cells hd.obj
  have c0' := (hb0.cell (p := ⟨q, 1, none⟩) (hd.bound q hd.gq)).trans c0
  have hs := hd.seen.sl.below hb0
  have hmade : (w.alloc (.cells #[] 5)).ownsRow w.heap.size 5 1 (.slice (some ⟨w.heap.size, 0, none⟩) 0 0) 0 (([] : List Int).map (Value.int .u8)) := World.ownsRow_made w #[] 0 (Nat.le_refl _) (Nat.zero_le _) rfl
  have hs0 := hb0.size
  obtain ⟨L, hL⟩ : ∃ L, 64 * R.n = L := ⟨_, rfl⟩
  rw [hL] at c0 c0' hs ⊢
  have nL : 0 + L ≤ 140737488355328 := by omega
  clear hL hd c0 hn
  go_enter Try.func43, Try.ntmps43
  go_wp2_with (at_builtin; refine append_sl rfl (.tmp 3) (.tmp 7) rfl w.heap.size _ 0 [] rfl hmade _ L _ R.seen rfl hs nL hs0 ?_; intro bo c w1 hown hgr _)
  go_ret
  rw [Nat.zero_add, List.nil_append] at hown
  exact ⟨bo, c, by simp, hown, hb0.grown hgr hs0 (fun b hb' => (hmade.lt b hb').1)⟩
theorem RDevAt.armedTo {lb lc sb sc db fb : Nat} (h : RDevAt w G q R lb lc sb sc db fb) (n : Int) (h0 : 0 ≤ n) (h1 : n ≤ 9223372036854775807) :
    RDevAt (w.setCell ⟨q, 4, none⟩ (.int .i64 n)) G q { R with armed := n } lb lc sb sc db fb ∧ w.grownBy (w.setCell ⟨q, 4, none⟩ (.int .i64 n)) (some q) := by
  obtain ⟨e1, e2, e3⟩ := setCell_obj h.obj 4 (.int .i64 n)
  exact ⟨h.turned e2 n R.down h0 h1 e1, e2⟩
theorem RDevAt.downTo {lb lc sb sc db fb : Nat} (h : RDevAt w G q R lb lc sb sc db fb) (b : Bool) :
    RDevAt (w.setCell ⟨q, 5, none⟩ (.bool b)) G q { R with down := b } lb lc sb sc db fb ∧ w.grownBy (w.setCell ⟨q, 5, none⟩ (.bool b)) (some q) := by
  obtain ⟨e1, e2, e3⟩ := setCell_obj h.obj 5 (.bool b)
  exact ⟨h.turned e2 R.armed b h.ok.a0 h.ok.a1 e1, e2⟩
theorem rarm_any (hd : RDev w G q R) (n : Int) (hn : Rg n) : Calls Try.prog 23 #[.pointer (some ⟨q, 0, none⟩), .int .i64 n] w fun e w' => e = .returned (.tuple #[]) ∧ RDev w' G q { R with armed := max n 0 } ∧ Goes G w G w' := by
  obtain ⟨lb, lc, sb, sc, db, fb, hd⟩ := hd
  obtain ⟨c0, c1, c2, c3, c4, c5⟩ := rdev_cells hd.obj
  have hf := rdev_frozen hd.obj 4
  obtain ⟨d1, g1⟩ := hd.armedTo (max n 0) (by omega) (by have := hn.2; omega)
  have hgo := hd.goes hd.gq g1
  clear hd
  go_enter Try.func23, Try.ntmps23
  go_wp2
  go_end0
  exact ⟨rfl, ⟨_, _, _, _, _, _, d1⟩, hgo⟩
theorem rasks_any (hd : RDev w G q R) (a n : Int) (ha : Rg a) (hn : Rg n) : Calls Try.prog 35 #[.pointer (some ⟨q, 0, none⟩), .int .i64 a, .int .i64 n] w fun e w' => e = .returned (.int .i64 (raskE R a n)) ∧ w = w' := by
  obtain ⟨lb, lc, sb, sc, db, fb, hd⟩ := hd
  obtain ⟨c0, c1, c2, c3, c4, c5⟩ := rdev_cells hd.obj
  have hn1 := hd.ok.n1
  unfold Rg at ha hn
  unfold raskE
  obtain ⟨L, hL⟩ : ∃ L, 64 * R.n = L := ⟨_, rfl⟩
  rw [hL] at c0 c1 ⊢
  have hL9 : L ≤ 262144 := by omega
  clear hL hd hn1
  cases hdn : R.down with
  | true =>
    rw [hdn] at c5
    go_enter Try.func35, Try.ntmps35
    go_wp2
    go_ret
    exact ⟨rfl, rfl⟩
  | false =>
    rw [hdn] at c5
    rw [if_neg (by simp)]
    by_cases h1 : a < 0
    · have h1' : decide (a < 0) = true := by simpa using h1
      rw [if_pos (by omega)]
      go_enter Try.func35, Try.ntmps35
      go_wp2
      go_ret
      exact ⟨rfl, rfl⟩
    · by_cases h2 : (L : Int) < a
      · rw [if_pos (by omega)]
        go_enter Try.func35, Try.ntmps35
        go_wp2
        go_ret
        exact ⟨rfl, rfl⟩
      · by_cases h3 : n < 0
        · rw [if_pos (by omega)]
          go_enter Try.func35, Try.ntmps35
          go_wp2
          go_ret
          exact ⟨rfl, rfl⟩
        · by_cases h4 : (L : Int) - a < n
          · rw [if_pos (by omega)]
            go_enter Try.func35, Try.ntmps35
            go_wp2
            go_ret
            exact ⟨rfl, rfl⟩
          · rw [if_neg (by omega)]
            go_enter Try.func35, Try.ntmps35
            go_wp2
            go_ret
            exact ⟨rfl, rfl⟩
theorem rstep_any (hd : RDev w G q R) (hdn : R.down = false) : Calls Try.prog 39 #[.pointer (some ⟨q, 0, none⟩)] w fun e w' => e = .returned (.bool (rstepB R)) ∧ RDev w' G q (rstepS R) ∧ Goes G w G w' := by
  obtain ⟨lb, lc, sb, sc, db, fb, hd⟩ := hd
  have hf := rdev_frozen hd.obj 4
  have a0 := hd.ok.a0
  have a1 := hd.ok.a1
  by_cases h0 : R.armed = 0
  · obtain ⟨c0, c1, c2, c3, c4, c5⟩ := rdev_cells hd.obj
    rw [h0] at c4
    have e1 : rstepS R = R := by unfold rstepS; rw [if_pos h0]
    have e2 : rstepB R = false := by unfold rstepB; rw [h0]; rfl
    rw [e1, e2]
    have H := hid hd
    clear hd h0 e1 e2
    go_enter Try.func39, Try.ntmps39
    go_wp2
    go_ret
    exact ⟨rfl, ⟨_, _, _, _, _, _, H.out⟩, Goes.refl _ _⟩
  · obtain ⟨c0, c1, c2, c3, c4, c5⟩ := rdev_cells hd.obj
    obtain ⟨d1, g1⟩ := hd.armedTo (R.armed - 1) (by omega) (by omega)
    obtain ⟨e0, e1, e2, e3, e4, e5⟩ := rdev_cells d1.obj
    have hf1 := rdev_frozen d1.obj 5
    obtain ⟨d2, g2⟩ := d1.downTo (R.armed - 1 == 0)
    obtain ⟨k0, k1, k2, k3, k4, k5⟩ := rdev_cells d2.obj
    have hgo := (hd.goes hd.gq g1).trans (d1.goes d1.gq g2)
    have hv : (R.armed - 1 == 0) = rstepB R := by unfold rstepB; rw [Bool.eq_iff_iff, beq_iff_eq, decide_eq_true_eq]; omega
    have hS : rstepS R = { R with armed := R.armed - 1, down := (R.armed - 1 == 0) } := by unfold rstepS; rw [if_neg h0, hv]; rfl
    rw [hS]
    have hne : (R.armed == 0) = false := by simpa using h0
    simp only at e0 e1 e2 e3 e4 e5 k0 k1 k2 k3 k4 k5
    have H := hid d2
    have HV := hid hv
    clear hd d1 d2 hS hv h0
    generalize R.armed = A at *
    go_enter Try.func39, Try.ntmps39
    go_wp2
    go_ret
    exact ⟨ret_bool HV.out, ⟨_, _, _, _, _, _, H.out⟩, hgo⟩
end
end Go.Proofs.Ytcelmnhdchfhiaa
