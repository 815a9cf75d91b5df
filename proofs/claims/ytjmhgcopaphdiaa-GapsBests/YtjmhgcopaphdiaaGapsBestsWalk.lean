/- 'GapsBests' walked: which span fits best is the document's. -/
import Derived.Test.YtjmhgcopaphdiaaSmallGap
import Derived.Test.YtjmhgcopaphdiaaRefGapA
namespace Go.Proofs.Ytjmhgcopaphdiaa
set_option maxRecDepth 100000
open Go.RowKit
set_option linter.unusedVariables false
set_option linter.unusedSimpArgs false
set_option maxRecDepth 100000

theorem gapsBests_walk (w : World) (ao : Option Addr) (n cap : Nat) (l : List Spn) (h : Ps w ao n cap l) (hc : cap * 16 ≤ 140737488351232) (z : Int) (hw : (Lit.int .i64 z).wf = true) :
    Calls Try.prog 4 #[.slice ao n cap, .int .i64 z] w fun e w' => e = .returned (.bool true) ∧ Below w.heap.size w w' := by
  have hroom := h.room
  have hn : n ≤ 9223372036854775807 := by omega
  clear hw
  have cB : ∀ w', Below w.heap.size w w' → Calls Try.prog 19 #[.slice ao n cap, .int .i64 z] w' fun e w'' => e = .returned (.tuple #[.agg #[.int .i64 (bsN l z).pos, .int .i64 (bsN l z).sz], .bool (bsB l z)]) ∧ Below w'.heap.size w' w'' := fun w' hb => best_ps ao n cap l z w' (h.below hb) hn
  have cR : ∀ w', Below w.heap.size w w' → Calls Try.prog 20 #[.slice ao n cap, .int .i64 z] w' fun e w'' => e = .returned (.tuple #[.agg #[.int .i64 (bsN l z).pos, .int .i64 (bsN l z).sz], .bool (bsB l z)]) ∧ Below w'.heap.size w' w'' := fun w' hb => rbest_ps ao n cap l z w' (h.below hb) hn
  generalize bsN l z = u at *
  generalize bsB l z = is at *
  obtain ⟨p, y⟩ := u
  simp only at cB cR
  clear h
  have Hal : Hid (∀ w' : World, ∀ o : Obj, Below w.heap.size w w' → Below w.heap.size w (w'.alloc o)) := fun w' o h => h.alloc h.size o
  have Hx : Hid (∀ w' : World, BxP (w'.alloc (.cells #[.int .i64 p, .int .i64 y] 34)) w'.heap.size ⟨p, y⟩) := fun w' => bxP_new' w' p y
  go_enter Try.func4, Try.ntmps4
  go_wp2_with (first
    | (go_at_call 9; with_reducible refine (smallP_any _).mono ?_; rintro e w1 ⟨rfl, hb1⟩)
    | (go_at_call 19; with_reducible refine (cB _ hb1).mono ?_; rintro e w2 ⟨rfl, hb2⟩; have hb2' := next hb1 hb2; have hx2 := Hx.out w2)
    | (go_at_call 20; with_reducible refine (cR _ (Hal.out _ _ hb2')).mono ?_; rintro e w3 ⟨rfl, hb3⟩; obtain ⟨q0, q1, _, _⟩ := (hx2.kept hb3).cells; have hb3' := next (Hal.out _ _ hb2') hb3; have hlt := (hx2.kept hb3).lt))
  go_ret
  exact ⟨rfl, Hal.out _ _ hb3'⟩
end Go.Proofs.Ytjmhgcopaphdiaa
