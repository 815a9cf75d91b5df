/- StLs: these texts, one behind another. -/
import Derived.Test.YtpbljjbhfhfmgaaDoorMxStW
import Derived.Test.YtpbljjbhfhfmgaaDoorMxStR
/- joistlaw18.small: a small case comes out right. -/
namespace Go.Proofs.YtpbljjbhfhfmgaaDoor
set_option maxRecDepth 100000
open Go.RowKit
set_option linter.unusedVariables false
set_option linter.unusedSimpArgs false
set_option maxRecDepth 100000

def shp4t : Shp := ⟨4, 4, 2, 30⟩
theorem shp4t_g : ShG shp4t := ⟨⟨by decide, by decide⟩, ⟨by decide, by decide⟩, ⟨by decide, by decide⟩, ⟨by decide, by decide⟩⟩
theorem shp4t_ok : NwOk shp4t 2 := by decide
theorem shp4t_no : ¬ NwOk shp4t 3 := by decide
set_option maxHeartbeats 2000000 in
theorem smallT_any (w : World) (T : Cws w) :
    Calls Tryd.prog 5 #[] w fun e w' => e = .returned (.bool true) ∧ Below w.heap.size w w' := by
  have c1 : Calls Tryd.prog 13 #[.agg #[.int .i64 4, .int .i64 4, .int .i64 2, .int .i64 30], .int .i64 2] w fun e w' => ∃ so sc ro rc to tc A N C, e = .returned (.tuple #[.agg #[.int .i64 4, .int .i64 4, .int .i64 2, .int .i64 30, .int .i64 2, .int .i64 4, .slice so 4 sc, .slice ro 2 rc, .slice to 4 tc], .int .i64 0]) ∧ Sta w' ⟨so, 4, sc, ro, 2, rc, to, 4, tc, A, N, C⟩ (nwS shp4t 2) ∧ Below w.heap.size w w' := by
    refine (newS_any shp4t shp4t_g 2 ⟨by decide, by decide⟩ w).mono ?_
    rintro e w1 ⟨v, rfl, h, hb⟩
    obtain ⟨e1, e2⟩ := ne_t shp4t_ok
    rw [e2] at h
    rw [e1, e2]
    obtain ⟨so, sn, sc, ro, rn, rc, to, tn, tc, A, N, C⟩ := v
    have h1 : sn = 4 := h.s.len.symm
    have h2 : rn = 2 := h.r.len.symm
    have h3 : tn = 4 := h.d.len.symm
    subst h1 h2 h3
    exact ⟨so, sc, ro, rc, to, tc, A, N, C, rfl, h, hb⟩
  have c2 : ∀ w1, Calls Tryd.prog 13 #[.agg #[.int .i64 4, .int .i64 4, .int .i64 2, .int .i64 30], .int .i64 3] w1 fun e w' => ∃ so sn sc ro rn rc to tn tc, e = .returned (.tuple #[.agg #[.int .i64 0, .int .i64 0, .int .i64 0, .int .i64 0, .int .i64 0, .int .i64 0, .slice so sn sc, .slice ro rn rc, .slice to tn tc], .int .i64 1]) ∧ Below w1.heap.size w1 w' := fun w1 => by
    refine (newS_any shp4t shp4t_g 3 ⟨by decide, by decide⟩ w1).mono ?_
    rintro e w2 ⟨v, rfl, h, hb⟩
    obtain ⟨e1, e2⟩ := ne_f shp4t_no
    rw [e1, e2]
    exact ⟨v.so, v.sn, v.sc, v.ro, v.rn, v.rc, v.to, v.tn, v.tc, rfl, hb⟩
  have c3 : ∀ w1 so sc ro rc to tc A N C, Cws w1 → Sta w1 ⟨so, 4, sc, ro, 2, rc, to, 4, tc, A, N, C⟩ (nwS shp4t 2) → Calls Tryd.prog 7 #[.agg #[.int .i64 4, .int .i64 4, .int .i64 2, .int .i64 30, .int .i64 2, .int .i64 4, .slice so 4 sc, .slice ro 2 rc, .slice to 4 tc]] w1 fun e w' => e = .returned (.bool true) ∧ Below w1.heap.size w1 w' := fun w1 so sc ro rc to tc A N C T1 h => by
    have := rightSt_any ⟨so, 4, sc, ro, 2, rc, to, 4, tc, A, N, C⟩ (nwS shp4t 2) w1 T1 h (show (4 : Nat) ≤ 100000 by decide) (show (2 : Nat) ≤ 100000 by decide)
    rw [show stB (nwS shp4t 2) = true from decide_eq_true (nw_right shp4t_ok).1] at this
    exact this
  go_enter Tryd.func5, Tryd.ntmps5
  go_wp2_with fail
  refine c1.mono ?_
  rintro e w1 ⟨so, sc, ro, rc, to, tc, A, N, C, rfl, h1, hb1⟩
  have hx : (w1.alloc (.cells #[.int .i64 4, .int .i64 4, .int .i64 2, .int .i64 30, .int .i64 2, .int .i64 4, .slice so 4 sc, .slice ro 2 rc, .slice to 4 tc] 28)).heap[w1.heap.size]? = some (.cells #[.int .i64 4, .int .i64 4, .int .i64 2, .int .i64 30, .int .i64 2, .int .i64 4, .slice so 4 sc, .slice ro 2 rc, .slice to 4 tc] 28 (0, 0)) := heap_alloc_new w1 _
  have hlt : w1.heap.size < (w1.alloc (.cells #[.int .i64 4, .int .i64 4, .int .i64 2, .int .i64 30, .int .i64 2, .int .i64 4, .slice so 4 sc, .slice ro 2 rc, .slice to 4 tc] 28)).heap.size := (Array.getElem?_eq_some_iff.1 hx).1
  have hba : Below w1.heap.size w1 (w1.alloc (.cells #[.int .i64 4, .int .i64 4, .int .i64 2, .int .i64 30, .int .i64 2, .int .i64 4, .slice so 4 sc, .slice ro 2 rc, .slice to 4 tc] 28)) := (Below.refl _ _).alloc (Nat.le_refl _) _
  have H1 := hid h1
  have HB1 := hid hb1
  have HX := hid hx
  have HBA := hid hba
  clear h1 hb1 hx hba c1
  go_wp2_with fail
  generalize w1.alloc (.cells #[.int .i64 4, .int .i64 4, .int .i64 2, .int .i64 30, .int .i64 2, .int .i64 4, .slice so 4 sc, .slice ro 2 rc, .slice to 4 tc] 28) = W1 at *
  refine (c2 _).mono ?_
  rintro e w2 ⟨so2, sn2, sc2, ro2, rn2, rc2, to2, tn2, tc2, rfl, hb2⟩
  have hx2 := (hb2.block w1.heap.size hlt).trans HX.out
  have hb3 : Below w2.heap.size w2 (w2.alloc (.cells #[.int .i64 0, .int .i64 0, .int .i64 0, .int .i64 0, .int .i64 0, .int .i64 0, .slice so2 sn2 sc2, .slice ro2 rn2 rc2, .slice to2 tn2 tc2] 28)) := (Below.refl _ _).alloc (Nat.le_refl _) _
  have hx3 := (hb3.block w1.heap.size (Array.getElem?_eq_some_iff.1 hx2).1).trans hx2
  have HB3 := hid (next HB1.out (next (next HBA.out hb2) hb3))
  have HS3 := hid (H1.out.below (next (next HBA.out hb2) hb3))
  have HX3 := hid hx3
  clear hb2 hx2 hb3 hx3 hlt c2
  have c3' := c3 _ _ _ _ _ _ _ _ _ _ (T.kept HB3.out) HS3.out
  clear c3
  obtain ⟨d0, d1, d2, d3, d4, d5, d6, d7, d8⟩ := nine_cells HX3.out
  go_wp2_with (first
    | (go_at_call 7; refine c3'.mono ?_; rintro e w4 ⟨rfl, hb4⟩; have HB4 := hid (next HB3.out hb4)))
  go_ret
  exact ⟨rfl, HB4.out⟩
end Go.Proofs.YtpbljjbhfhfmgaaDoor
