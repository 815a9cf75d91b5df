/- joistlaw09.RootsCodes walked: it returns true. -/
import Derived.Test.YtmefepjjlhphnaaDoorSmallRoot
import Derived.Test.YtmefepjjlhphnaaDoorRefRootE
import Derived.Test.YtmefepjjlhphnaaDoorMgI
namespace Go.Proofs.YtmefepjjlhphnaaDoor
set_option maxRecDepth 100000
open Go.RowKit
set_option linter.unusedVariables false
set_option linter.unusedSimpArgs false
set_option maxRecDepth 100000

theorem rrL_len (zs : List Int) : (rrL zs).length ≤ 8 := by
  by_cases h : RdR zs
  · rw [(rr_t h).2]; exact h.1.len.2.1
  · rw [(rr_f h).2]; simp
set_option maxHeartbeats 4000000 in
theorem rootsCodes_walk (W : World) (ao : Option Addr) (n cap : Nat) (l : List Rt) (h : Rs W ao n cap l) (hreach : cap * 32 ≤ 140737488351232) (bo : Option Addr) (m c : Nat) (zs : List Int) (hs : Sl .u8 W bo m c zs) (hw : ∀ z ∈ zs, (Lit.int .u8 z).wf = true) (hr : c * 1 ≤ 140737488351232) :
    Calls Tryd.prog 3 #[.slice ao n cap, .slice bo m c] W fun e W' => e = .returned (.bool true) ∧ Below W.heap.size W W' := by
  have hroom := h.room
  have hn : n ≤ 9223372036854775806 := by omega
  have hn' : n ≤ 9223372036854775807 := by omega
  have hm : m ≤ 140737488355328 := by have := hs.room; omega
  have hl0 := hs.len
  have hby := bytes_wf hw
  have cF : ∀ wr, Below W.heap.size W wr → _ := fun wr hb => few_rs ao n cap l wr (h.below hb) hn
  by_cases hf : FewR l
  · rw [fewB_t hf] at cF
    have cBy : ∀ w, Below W.heap.size W w → _ := fun w (hb : Below W.heap.size W w) => bytesR_rs ao n cap l w (h.below hb) hn'
    have cBr : ∀ w, Below W.heap.size W w → _ := fun w (hb : Below W.heap.size W w) => rbytesR_rs ao n cap l w (h.below hb) hn
    have cRd : ∀ (w : World) (g : Nat), Sl .u8 w (some ⟨g, 0, none⟩) m (m + 1) zs → Calls Tryd.prog 9 #[.slice (some ⟨g, 0, none⟩) m (m + 1)] w fun e w' => ∃ b c, e = .returned (.tuple #[.slice b (rrL zs).length c, .bool (rrB zs)]) ∧ OwR w.heap.size w' b (rrL zs).length c (rrL zs) ∧ Below w.heap.size w w' := fun w g hS => (readR_any (some ⟨g, 0, none⟩) m (m + 1) zs w hS hby (by omega)).mono (by
      rintro e w' ⟨b, k, c, rfl, ho, hb'⟩
      obtain rfl : (rrL zs).length = k := ho.len
      exact ⟨b, c, rfl, ho, hb'⟩)
    have cRr : ∀ (w : World), Below W.heap.size W w → Calls Tryd.prog 12 #[.slice bo m c] w fun e w' => ∃ b c, e = .returned (.tuple #[.slice b (rrL zs).length c, .bool (rrB zs)]) ∧ OwR w.heap.size w' b (rrL zs).length c (rrL zs) ∧ Below w.heap.size w w' := fun w hb => (rreadR_any bo m c zs w (hs.below hb) hby (by omega)).mono (by
      rintro e w' ⟨b, k, c, rfl, ho, hb'⟩
      obtain rfl : (rrL zs).length = k := ho.len
      exact ⟨b, c, rfl, ho, hb'⟩)
    have h8 := rrL_len zs
    have cS : ∀ a c a' c' (k : Nat) (M : List Rt) wr, k ≤ 8 → Rs wr a k c M → Rs wr a' k c' M → Calls Tryd.prog 13 #[.slice a k c, .slice a' k c'] wr fun e w' => e = .returned (.bool true) ∧ Below wr.heap.size wr w' := fun a c a' c' k M wr hk h1 h2 => by
      have := rsame_rs a k c M a' k c' M wr h1 h2 (by omega) (by omega)
      rwa [samR_t rfl] at this
    generalize rbE l = E at *
    generalize rbL l = X at *
    generalize rrB zs = rb at *
    generalize rrL zs = RL at *
    generalize RL.length = rl at *
    have HS := hid hs
    clear h hw hs hf
    go_enter Tryd.func3, Tryd.ntmps3
    go_wp2_with (first
      | (go_at_call 5; with_reducible refine (smallR_any _).mono ?_; rintro e w1 ⟨rfl, hb1⟩; have s1 := HS.out.below hb1)
      | (go_at_call 6; with_reducible refine (cF _ hb1).mono ?_; rintro e w' ⟨rfl, rfl⟩)
      | (go_at_call 7; with_reducible refine (lent_any _ _ _ zs _ s1 hm).mono ?_; rintro e w2 ⟨rfl, hx, hb2⟩; have b2 := next hb1 hb2)
      | (go_at_call 8; with_reducible refine (cBy w2 b2).mono ?_; rintro e w3 ⟨xo, xm, xc, rfl, hX, hb3⟩; have b3 := next b2 hb3; have hx3 := hx.below hb3; have sl3 := hx3.sl hl0)
      | (go_at_call 9; with_reducible refine (cRd w3 _ sl3).mono ?_; rintro e w4 ⟨a4, k4, rfl, ho4, hb4⟩; have b4 := next b3 hb4; have hx4 := hx3.below hb4; have hX4 := hX.below hb4; have s4 := HS.out.below b4)
      | (go_at_call 10; with_reducible refine (kept_any _ _ _ _ zs _ hx4 s4 hm).mono ?_; rintro e w' ⟨rfl, rfl⟩)
      | (go_at_call 11; with_reducible refine (cBr w4 b4).mono ?_; rintro e w5 ⟨yo, ym, yc, rfl, hY, hb5⟩; have b5 := next b4 hb5; have hx5 := hx4.below hb5; have hX5 := hX4.below hb5; have o5 := ho4.below hb5)
      | (go_at_call 12; with_reducible refine (cRr w5 b5).mono ?_; rintro e w6 ⟨a6, k6, rfl, ho6, hb6⟩; have b6 := next b5 hb6; have hx6 := hx5.below hb6; have hX6 := hX5.below hb6; have hY6 := hY.below hb6; have o6 := o5.below hb6;
         have tx := hX6.sl.text (P := Tryd.prog) Tryd.underlying23 Tryd.underlying5 Tryd.underlying9; have ty := hY6.sl.text (P := Tryd.prog) Tryd.underlying23 Tryd.underlying5 Tryd.underlying9)
      | (go_at_call 13; with_reducible refine (cS a4 k4 a6 k6 rl RL w6 h8 o6.rs ho6.rs).mono ?_; rintro e w7 ⟨rfl, hb7⟩; have b7 := next b6 hb7; have hx7 := hx6.below hb7; have rx := (hX6.below hb7).rowb; have hlx := hx.lt;
         have cO := owned_two (B := w1.heap.size) (rx.mono hb2.size) (hx7.rowd hl0 hm) (fun hc _ e => (by have h3 := (rx.spot hc).2.1; rw [e] at h3; omega)))
      | (go_at_call 14; with_reducible refine cO.mono ?_; rintro e w8 ⟨rfl, ho⟩))
    have hbA : Below w7.heap.size w7 (w7.alloc (.cells #[.slice xo xm xc, .slice (some ⟨w1.heap.size, 0, none⟩) m (m + 1)] 23)) := (Below.refl _ _).alloc (Nat.le_refl _) _
    have hs17 : w1.heap.size ≤ w7.heap.size := Nat.le_trans hb2.size (Nat.le_trans hb3.size (Nat.le_trans hb4.size (Nat.le_trans hb5.size (Nat.le_trans hb6.size hb7.size))))
    have hbo := ho.below (B := w1.heap.size) (fun j hj => (by rcases hj with hj | hj <;> rw [hj.1]; exact Nat.le_trans hb2.size (rx.spot hj.2).2.1; exact Nat.le_refl _)) (Nat.le_trans hs17 hbA.size)
    have b8 : Below W.heap.size W w8 := (next b7 hbA).trans (hbo.mono hb1.size)
    go_ret
    exact ⟨rfl, b8⟩
  · rw [fewB_f hf] at cF
    clear h hs hroom hreach hf hw hby
    go_enter Tryd.func3, Tryd.ntmps3
    go_wp2_with (first
      | (go_at_call 5; with_reducible refine (smallR_any _).mono ?_; rintro e w1 ⟨rfl, b1⟩)
      | (go_at_call 6; with_reducible refine (cF _ b1).mono ?_; rintro e w' ⟨rfl, rfl⟩))
    go_ret
    exact ⟨rfl, b1⟩
end Go.Proofs.YtmefepjjlhphnaaDoor
