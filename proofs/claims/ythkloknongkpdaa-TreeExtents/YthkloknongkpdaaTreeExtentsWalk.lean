/- 'TreeExtents' walked: the extents of kinds, which ones are right, how many nodes. -/
import Derived.Test.YthkloknongkpdaaTreeReadsWalk
import Derived.Test.YthkloknongkpdaaSame
import Derived.Test.YthkloknongkpdaaMtE
import Derived.BigQuiet
namespace Go.Proofs.Ythkloknongkpdaa
set_option maxRecDepth 100000
open Go.RowKit
set_option linter.unusedVariables false
set_option linter.unusedSimpArgs false
set_option maxRecDepth 100000

theorem own_int0 (w : World) : Own .i64 3 w.heap.size (w.alloc (.cells #[] 3)) (some ⟨w.heap.size, 0, none⟩) 0 0 [] :=
  ⟨rfl, rfl, Or.inr ⟨w.heap.size, 0, #[], rfl, Nat.le_refl _, heap_alloc_new w _, Nat.le_refl _, by unfold maxLen; omega, rfl, rfl⟩⟩
theorem fx_len (ks : List Int) : (fxL ks).length ≤ 64 := by
  by_cases h : FxOk ks
  · have h1 := (fx_right h).n64
    exact h1
  · rw [(fx_f h).1]; exact Nat.zero_le _
set_option maxHeartbeats 2000000 in
theorem treeExtents_walk (w : World) (ko : Option Addr) (m c : Nat) (ks : List Int) (hs : Sl .i64 w ko m c ks) (hw : ∀ z ∈ ks, (Lit.int .i64 z).wf = true) (hr : c * 8 ≤ 140737488351232) (P : Int) (hP : (Lit.int .i64 P).wf = true) (ao : Option Addr) (n cap : Nat) (l : List Blk) (h : Bs w ao n cap l) (hc : cap * 24 ≤ 140737488351232) (z : Int) (hz : (Lit.int .i64 z).wf = true) :
    Calls Try.prog 3 #[.slice ko m c, .int .i64 P, .slice ao n cap, .int .i64 z] w fun e w' => e = .returned (.bool true) ∧ Below w.heap.size w w' := by
  have hm : m * 8 ≤ 140737488351232 := by have := hs.room; omega
  have hm8 : (0 + m) * 8 ≤ 140737488355328 := by omega
  have hn : n ≤ 9223372036854775807 := by have := h.room; omega
  have hl0 := hs.len
  have hzg : Rg z := bounds_i64 hz
  have c0 := smallX_any w
  have hL := fx_len ks
  have cF := fun (o : Option Addr) (c : Nat) (w' : World) (hS : Sl .i64 w' o m c ks) => tfrom_sl o m c ks w' hS (by omega)
  have cG := fun w' (hb : Below w.heap.size w w') => rfrom_sl ko m c ks w' (hs.below hb) (by omega)
  have cR := fun w' (hb : Below w.heap.size w w') => tright_bs P ao n cap l w' (h.below hb) hn
  have cS := fun w' (hb : Below w.heap.size w w') => rrightX_bs P ao n cap l w' (h.below hb) hn
  have cE : ∀ (o : Option Addr) (c' : Nat) (w' : World), Sl .i64 w' o m c' ks → Below w.heap.size w w' → Calls Try.prog 13 #[.slice o m c', .slice ko m c] w' fun e w'' => e = .returned (.bool true) ∧ Below w'.heap.size w' w'' := fun o c' w' hS hb => by
    have := same_any o m c' ks ko m c ks w' hS (hs.below hb) (by omega) (by omega)
    rwa [show (ks == ks) = true by simp] at this
  have cN := fun w' => tnodes_any z hzg.2 w'
  have cM := fun w' => rnodes_any z hzg.2 w'
  generalize fxL ks = L at *
  generalize fxB ks = FB at *
  generalize rxB P l = R at *
  generalize ntN z = N at *
  have HS := hid hs
  clear hs hw h
  go_enter Try.func3, Try.ntmps3
  go_wp2_with (first
    | (go_at_call 9; with_reducible refine c0.mono ?_; rintro e w1 ⟨rfl, hb1⟩; have O1 := hid (own_int0 w1); have hbA := nxA (Below.refl w1.heap.size w1) (.cells #[] 3); have b1 := next hb1 hbA; have S1 := hid (HS.out.below b1))
    | (at_builtin; (refine append_il rfl (.tmp 16) (.tmp 17) rfl w1.heap.size _ 0 [] rfl O1.out.row ko m c ks rfl S1.out hm8 hbA.size ?_; intro bi ci w2 ho2 hg2 _; rw [Nat.zero_add] at *; rw [List.nil_append] at ho2; have O2 := hid ho2; have b2 := next hb1 (hbA.grown hg2 hbA.size (fun j hj => (O1.out.row.lt j hj).1)); clear ho2 hg2))
    | (go_at_call 10; (with_reducible refine (cF _ _ _ O2.out.sl).mono ?_; rintro e w3 ⟨lo, ml, lc, rfl, hbs, hb3⟩; have b3 := next b2 hb3; have O3 := hid (O2.out.below hb3)))
    | (go_at_call 11; (with_reducible refine (cG _ b3).mono ?_; rintro e w4 ⟨mo, mm, mc, rfl, hom, hb4⟩; have b4 := next b3 hb4; have hbs4 := hbs.below hb4; have O4 := hid (O3.out.below hb4)))
    | (go_at_call 12; (with_reducible refine (same_xs _ _ _ _ _ _ L _ hbs4 hom.bs hL).mono ?_; rintro e w5 ⟨rfl, hb5⟩; have b5 := next b4 hb5; have O5 := hid (O4.out.below hb5)))
    | (go_at_call 13; (with_reducible refine (cE _ _ _ O5.out.sl b5).mono ?_; rintro e w6 ⟨rfl, hb6⟩; have b6 := next b5 hb6))
    | (go_at_call 14; (with_reducible refine (cR _ b6).mono ?_; rintro e w7 ⟨rfl, hb7⟩; have b7 := next b6 hb7))
    | (go_at_call 15; (with_reducible refine (cS _ b7).mono ?_; rintro e w8 ⟨rfl, hb8⟩; have b8 := next b7 hb8))
    | (go_at_call 16; (with_reducible refine (cN _).mono ?_; rintro e w9 ⟨rfl, hb9⟩; have b9 := next b8 hb9))
    | (go_at_call 17; (with_reducible refine (cM _).mono ?_; rintro e w10 ⟨rfl, rfl⟩)))
  go_ret
  exact ⟨rfl, b9⟩
end Go.Proofs.Ythkloknongkpdaa
