/- 'PagesRuns' walked: rows of free pages, and the one that fits best, are the document's. -/
import Derived.Test.YtlghhhhgfnnjgaaDoorSmallPag
import Derived.Test.YtlghhhhgfnnjgaaDoorRefPagG
import Derived.Test.YtlghhhhgfnnjgaaDoorRefPagC
namespace Go.Proofs.YtlghhhhgfnnjgaaDoor
set_option maxRecDepth 100000
open Go.RowKit
set_option linter.unusedVariables false
set_option linter.unusedSimpArgs false
set_option maxRecDepth 100000

theorem pagesRuns_walk (w : World) (T : Cws w) (ao : Option Addr) (n cap : Nat) (ks : List Int) (h : Sl .i64 w ao n cap ks) (hwf : ∀ x ∈ ks, (Lit.int .i64 x).wf = true) (hc : cap * 8 ≤ 140737488351232) (z : Int) (hw : (Lit.int .i64 z).wf = true) :
    Calls Tryd.prog 4 #[.slice ao n cap, .int .i64 z] w fun e w' => e = .returned (.bool true) ∧ Below w.heap.size w w' := by
  have hroom := h.room
  have cS := smallG_any w T
  clear hwf hw
  by_cases hn : 1024 < n
  · have hni : (1024 : Int) < (n : Int) := by omega
    clear h T
    go_enter Tryd.func4, Tryd.ntmps4
    go_wp2_with (go_at_call 9; with_reducible refine cS.mono ?_; rintro e w1 ⟨rfl, hb1⟩)
    go_ret
    exact ⟨rfl, hb1⟩
  · have hni : ¬ ((1024 : Int) < (n : Int)) := by omega
    have cB := fun w' (hb : Below w.heap.size w w') => bestK_sl ao n cap ks z w' (h.below hb) (by omega)
    have cC := fun w' (hb : Below w.heap.size w w') => rbestK_sl ao n cap ks z w' (h.below hb) (by omega)
    have cR := fun w' (hb : Below w.heap.size w w') => runs_sl ao n cap ks w' (h.below hb) (by omega)
    have cQ := fun w' (hb : Below w.heap.size w w') => rruns_sl ao n cap ks w' (h.below hb) (by omega)
    have hlr : (rnL ks).length ≤ n := by have := rn_len ks ks.length; have := h.len; unfold rnL; omega
    generalize btN ks z = at' at *
    generalize btB ks z = is at *
    generalize rnL ks = R at *
    have HLR := hid hlr
    clear h T hlr
    go_enter Tryd.func4, Tryd.ntmps4
    go_wp2_with (first
      | (go_at_call 9; with_reducible refine cS.mono ?_; rintro e w1 ⟨rfl, hb1⟩)
      | (go_at_call 18; with_reducible refine (cB _ hb1).mono ?_; rintro e w2 ⟨rfl, hb2⟩; have hb2a := next hb1 hb2)
      | (go_at_call 19; with_reducible refine (cC _ hb2a).mono ?_; rintro e w3 ⟨rfl, hb3⟩; have hb3a := next hb2a hb3)
      | (go_at_call 21; with_reducible refine (cR _ hb3a).mono ?_; rintro e w4 ⟨b4, m4, c4, rfl, ho4, hb4⟩; have HP4 := hid ho4.ps; clear ho4; have hb4a := next hb3a hb4)
      | (go_at_call 22; with_reducible refine (cQ _ hb4a).mono ?_; rintro e w5 ⟨b5, m5, c5, rfl, ho5, hb5⟩; have HP5 := hid ho5.ps; clear ho5; have hb5a := next hb4a hb5; obtain rfl := HP4.out.len.symm.trans HP5.out.len; have HP4' := hid (HP4.out.below hb5); have hm4 := HP4.out.len)
      | (go_at_call 20; with_reducible refine (rsameP_eq _ _ _ _ _ _ _ HP4'.out HP5.out (by have := HLR.out; omega)).mono ?_; rintro e w6 ⟨rfl, hb6⟩))
    go_ret
    exact ⟨rfl, next hb5a hb6⟩
end Go.Proofs.YtlghhhhgfnnjgaaDoor
