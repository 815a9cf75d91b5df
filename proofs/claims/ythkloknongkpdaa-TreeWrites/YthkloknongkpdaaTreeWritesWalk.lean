/- 'TreeWrites' walked: what is written is the document's. -/
import Derived.Test.YthkloknongkpdaaMtI
import Derived.Test.YthkloknongkpdaaMtH
import Derived.BigQuiet
namespace Go.Proofs.Ythkloknongkpdaa
set_option maxRecDepth 100000
open Go.RowKit
set_option linter.unusedVariables false
set_option linter.unusedSimpArgs false
set_option maxRecDepth 100000

set_option maxHeartbeats 2000000 in
theorem treeWrites_walk (w : World) (P : Int) (hP : (Lit.int .i64 P).wf = true) (room : Int) (hm : (Lit.int .i64 room).wf = true) (ao : Option Addr) (n cap : Nat) (l : List Blk) (h : Bs w ao n cap l) (hc : cap * 24 ≤ 140737488351232) :
    Calls Try.prog 4 #[.int .i64 P, .int .i64 room, .slice ao n cap] w fun e w' => e = .returned (.bool true) ∧ Below w.heap.size w w' := by
  have hn : n ≤ 9223372036854775807 := by have := h.room; omega
  have c0 := smallX_any w
  by_cases h3 : 300 < (n : Int)
  · clear h
    go_enter Try.func4, Try.ntmps4
    go_wp2_with (first
      | (go_at_call 9; with_reducible refine c0.mono ?_; rintro e w1 ⟨rfl, hb1⟩))
    go_ret
    exact ⟨rfl, hb1⟩
  · have cW := fun w' (hb : Below w.heap.size w w') => twrite_bs P room ao n cap l w' (h.below hb) hn
    have cR := fun w' (hb : Below w.heap.size w w') => rwrite_bs P room ao n cap l w' (h.below hb) hn
    generalize wtE P room l = E at *
    generalize wtL P room l = Z at *
    clear h
    go_enter Try.func4, Try.ntmps4
    go_wp2_with (first
      | (go_at_call 9; with_reducible refine c0.mono ?_; rintro e w1 ⟨rfl, hb1⟩)
      | (go_at_call 18; with_reducible refine (cW _ hb1).mono ?_; rintro e w2 ⟨xo, xm, xc, rfl, hX, hb2⟩; have b2 := next hb1 hb2)
      | (go_at_call 19; with_reducible refine (cR _ b2).mono ?_; rintro e w3 ⟨yo, ym, yc, rfl, hY, hb3⟩; have b3 := next b2 hb3; have hX3 := hX.below hb3;
         have tx := hX3.sl.text (P := Try.prog) Try.underlying32 Try.underlying5 Try.underlying9; have ty := hY.sl.text (P := Try.prog) Try.underlying32 Try.underlying5 Try.underlying9;
         have rx := hX3.rowb; have cO := owned_two (B := w1.heap.size) rx (own_nil .u8 5 w1.heap.size w3).rowb (fun _ hc _ => (by omega)))
      | (go_at_call 20; with_reducible refine cO.mono ?_; rintro e w4 ⟨rfl, ho⟩))
    have hbA : Below w3.heap.size w3 (w3.alloc (.cells #[.slice xo xm xc, .slice none 0 0] 32)) := (Below.refl _ _).alloc (Nat.le_refl _) _
    have hs13 : w1.heap.size ≤ w3.heap.size := Nat.le_trans hb2.size hb3.size
    have hbo := ho.below (B := w1.heap.size) (fun j hj => (by rcases hj with hj | hj; rw [hj.1]; exact (rx.spot hj.2).2.1; have := hj.2; omega)) (Nat.le_trans hs13 hbA.size)
    have b8 : Below w.heap.size w w4 := (next b3 hbA).trans (hbo.mono hb1.size)
    go_ret
    exact ⟨rfl, b8⟩
end Go.Proofs.Ythkloknongkpdaa
