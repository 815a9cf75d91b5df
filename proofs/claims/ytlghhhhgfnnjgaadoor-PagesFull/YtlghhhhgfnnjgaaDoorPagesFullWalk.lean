/- 'PagesFull' walked: where Place tells no room, there is none. -/
import Derived.Test.YtlghhhhgfnnjgaaDoorPagAid
namespace Go.Proofs.YtlghhhhgfnnjgaaDoor
set_option maxRecDepth 100000
open Go.RowKit
set_option linter.unusedVariables false
set_option linter.unusedSimpArgs false
set_option maxRecDepth 100000

theorem pagesFull_walk (w : World) (T : Cws w) (P : Int) (hw0 : (Lit.int .i64 P).wf = true) (ao : Option Addr) (n cap : Nat) (l : List Spn) (h : Ps w ao n cap l) (hc : cap * 16 ≤ 140737488351232) (z : Int) (hw2 : (Lit.int .i64 z).wf = true) (x : Int) (hw3 : (Lit.int .i64 x).wf = true) :
    Calls Tryd.prog 6 #[.int .i64 P, .slice ao n cap, .int .i64 z, .int .i64 x] w fun e w' => e = .returned (.bool true) ∧ Below w.heap.size w w' := by
  have hroom := h.room
  have hlen := h.len
  have hrg : RgP ⟨x, z⟩ := ⟨bounds_i64 hw3, bounds_i64 hw2⟩
  have cS := smallG_any w T
  clear hw0 hw2 hw3
  by_cases hn : 200 < n
  · have hni : (200 : Int) < (n : Int) := by omega
    clear h T
    go_enter Tryd.func6, Tryd.ntmps6
    go_wp2_with (go_at_call 9; with_reducible refine cS.mono ?_; rintro e w1 ⟨rfl, hb1⟩)
    go_ret
    exact ⟨rfl, hb1⟩
  · have hni : ¬ ((200 : Int) < (n : Int)) := by omega
    have cK := fun w' (hb : Below w.heap.size w w') => kinds_ps P ao n cap l w' (T.kept hb) (h.below hb) (by omega)
    have cP := fun w' (hb : Below w.heap.size w w') => place_ps P ao n cap l z w' (T.kept hb) (h.below hb) (by omega)
    by_cases hr : RightO P l
    · rw [(kz_t hr).2] at cK
      rcases pc_cases P l z with ⟨e1, e2, e3⟩ | ⟨e1, e3⟩
      · simp only [e2, e3] at cP
        have cN := fun w' a m c (hb : Below w.heap.size w w') (h' : Ps w' a m c (l ++ [⟨x, z⟩])) (hm : m ≤ 8796093022208) => kinds_ps P a m c (l ++ [⟨x, z⟩]) w' (T.kept hb) h' hm
        simp only [(kz_f (full hr e1 x)).2] at cN
        have HPS := hid (fun w' (hb : Below w.heap.size w w') => h.below hb)
        have h16 : (0 + n) * 16 ≤ 140737488355328 := by omega
        have h16' : (n + 1) * 16 ≤ 140737488355328 := by omega
        generalize kzL P (l ++ [⟨x, z⟩]) = KN at *
        clear h T hr e1 e2 e3
        generalize kzL P l = K at *
        go_enter Tryd.func6, Tryd.ntmps6
        go_wp2_with (first
          | (go_at_call 9; with_reducible refine cS.mono ?_; rintro e w1 ⟨rfl, hb1⟩)
          | (go_at_call 10; with_reducible refine (cK _ hb1).mono ?_; rintro e w2 ⟨b2, m2, c2, rfl, ho2, hb2⟩; clear ho2; have hb2a := next hb1 hb2)
          | (go_at_call 12; with_reducible refine (cP _ hb2a).mono ?_; rintro e w3 ⟨rfl, hb3⟩; have hb3a := next hb2a hb3; have hbA := hb3a.alloc hb3a.size (.cells #[] 39); have hoE := own_emptyJ w.heap.size w3 hb3a.size; have HPA := hid (HPS.out _ hbA); have hszA := hbA.size)
          | (at_builtin; refine append_js rfl (.tmp 42) (.tmp 43) rfl w.heap.size _ 0 [] rfl hoE (by intro x hx; cases hx) ao n cap l rfl HPA.out h16 hszA ?_; intro bi ci w4 ho4 hg4; have hb4 : Below w.heap.size w w4 := hbA.grown hg4 hszA (fun j hj => (hoE.lt j hj).1); rw [Nat.zero_add, List.nil_append] at ho4; rw [Nat.zero_add]; have hbB := hb4.alloc hb4.size (.cells #[.int .i64 x, .int .i64 z] 39); have hoB := ho4.below ((Below.refl _ w4).alloc (Nat.le_refl _) (.cells #[.int .i64 x, .int .i64 z] 39)); have HPO := hid (ps_object w4 w4.heap.size ⟨x, z⟩ rfl hrg); have hszB := hbB.size; clear ho4 hg4)
          | (at_builtin; refine append_js rfl (.tmp 44) (.tmp 48) rfl w.heap.size _ n l rfl hoB.row hoB.rg (some ⟨w4.heap.size, 0, none⟩) 1 1 [⟨x, z⟩] rfl HPO.out h16' hszB ?_; intro bj cj w5 ho5 hg5; have hb5 : Below w.heap.size w w5 := hbB.grown hg5 hszB (fun j hj => (hoB.row.lt j hj).1); have HP5 := hid ho5.ps; clear ho5 hg5)
          | (go_at_call 10; with_reducible refine (cN _ _ _ _ hb5 HP5.out (by omega)).mono ?_; rintro e w6 ⟨b6, m6, c6, rfl, ho6, hb6⟩; clear ho6; have hb6a := next hb5 hb6))
        go_ret
        exact ⟨rfl, hb6a⟩
      · simp only [e3] at cP
        clear h T hr e1 e3
        generalize kzL P l = K at *
        generalize pcN P l z = an at *
        go_enter Tryd.func6, Tryd.ntmps6
        go_wp2_with (first
          | (go_at_call 9; with_reducible refine cS.mono ?_; rintro e w1 ⟨rfl, hb1⟩)
          | (go_at_call 10; with_reducible refine (cK _ hb1).mono ?_; rintro e w2 ⟨b2, m2, c2, rfl, ho2, hb2⟩; clear ho2; have hb2a := next hb1 hb2)
          | (go_at_call 12; with_reducible refine (cP _ hb2a).mono ?_; rintro e w3 ⟨rfl, hb3⟩; have hb3a := next hb2a hb3))
        go_ret
        exact ⟨rfl, hb3a⟩
    · rw [(kz_f hr).2] at cK
      clear h T hr
      generalize kzL P l = K at *
      generalize pcN P l z = an at *
      generalize pcB P l z = ab at *
      go_enter Tryd.func6, Tryd.ntmps6
      go_wp2_with (first
        | (go_at_call 9; with_reducible refine cS.mono ?_; rintro e w1 ⟨rfl, hb1⟩)
        | (go_at_call 10; with_reducible refine (cK _ hb1).mono ?_; rintro e w2 ⟨b2, m2, c2, rfl, ho2, hb2⟩; clear ho2; have hb2a := next hb1 hb2)
        | (go_at_call 12; with_reducible refine (cP _ hb2a).mono ?_; rintro e w3 ⟨rfl, hb3⟩; have hb3a := next hb2a hb3))
      go_ret
      exact ⟨rfl, hb3a⟩
end Go.Proofs.YtlghhhhgfnnjgaaDoor
