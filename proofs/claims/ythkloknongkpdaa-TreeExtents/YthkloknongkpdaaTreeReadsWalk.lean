/- 'TreeReads' walked: what is read and found is the document's. -/
import Derived.Test.YthkloknongkpdaaMtI
import Derived.Test.YthkloknongkpdaaLent
import Derived.BigQuiet
namespace Go.Proofs.Ythkloknongkpdaa
set_option maxRecDepth 100000
open Go.RowKit
set_option linter.unusedVariables false
set_option linter.unusedSimpArgs false
set_option maxRecDepth 100000

theorem nxA {w w' : World} (h : Below w.heap.size w w') (o : Obj) : Below w.heap.size w (w'.alloc o) := h.alloc h.size o
theorem same_xs (a : Option Addr) (n c : Nat) (b : Option Addr) (m d : Nat) (l : List Blk) (w : World) (h : Bs w a n c l) (g : Bs w b m d l) (hl : l.length ≤ 64) :
    Calls Try.prog 12 #[.slice a n c, .slice b m d] w fun e w' => e = .returned (.bool true) ∧ Below w.heap.size w w' := by
  have h1 := h.len
  have h2 := g.len
  obtain rfl : n = m := by omega
  exact rsameX_eq a n c l b d w h g (by omega)
set_option maxHeartbeats 2000000 in
theorem treeReads_walk (w : World) (P : Int) (hP : (Lit.int .i64 P).wf = true) (bo : Option Addr) (m c : Nat) (zs : List Int) (hs : Sl .u8 w bo m c zs) (hw : ∀ z ∈ zs, (Lit.int .u8 z).wf = true) (hr : c * 1 ≤ 140737488351232) (p : Int) (hp : (Lit.int .i64 p).wf = true) :
    Calls Try.prog 5 #[.int .i64 P, .slice bo m c, .int .i64 p] w fun e w' => e = .returned (.bool true) ∧ Below w.heap.size w w' := by
  have hm : m ≤ 140737488355328 := by have := hs.room; omega
  have hl0 := hs.len
  have hby := bytes_wf hw
  have hpg : Rg p := bounds_i64 hp
  have c0 := smallX_any w
  by_cases h3 : 8192 < (m : Int)
  · clear hs hw
    go_enter Try.func5, Try.ntmps5
    go_wp2_with (first
      | (go_at_call 9; with_reducible refine c0.mono ?_; rintro e w1 ⟨rfl, hb1⟩))
    go_ret
    exact ⟨rfl, hb1⟩
  · have cRd := fun (w : World) (g : Nat) (hS : Sl .u8 w (some ⟨g, 0, none⟩) m (m + 1) zs) => tread_sl P (some ⟨g, 0, none⟩) m (m + 1) zs w hS hby hm
    have cFd := fun (w : World) (g : Nat) (hS : Sl .u8 w (some ⟨g, 0, none⟩) m (m + 1) zs) => tfind_sl P (some ⟨g, 0, none⟩) m (m + 1) zs p hpg w hS hby hm
    have cRr := fun w' (hb : Below w.heap.size w w') => rreadX_sl P bo m c zs w' (hs.below hb) hby hm
    have cFr := fun w' (hb : Below w.heap.size w w') => rfindX_sl P bo m c zs p hpg w' (hs.below hb) hby hm
    have hL := (rx_len P zs).1
    generalize rxL P zs = L at *
    generalize rxR P zs = R at *
    generalize fdXB P zs p = FB at *
    generalize fdX P zs p = F at *
    obtain ⟨fa, fs, fu⟩ := F
    simp only at cFd cFr
    have HS := hid hs
    clear hs hw
    go_enter Try.func5, Try.ntmps5
    go_wp2_with (first
      | (go_at_call 9; with_reducible refine c0.mono ?_; rintro e w1 ⟨rfl, hb1⟩; have s1 := HS.out.below hb1)
      | (go_at_call 21; with_reducible refine (lent_any _ _ _ zs _ s1 hm).mono ?_; rintro e w2 ⟨rfl, hx, hb2⟩; have b2 := next hb1 hb2)
      | (go_at_call 22; (with_reducible refine (cRd _ _ (hx.sl hl0)).mono ?_; rintro e w3 ⟨lo, ml, lc, rfl, hbs, hb3⟩; have b3 := next b2 hb3; have hx3 := hx.below hb3))
      | (go_at_call 23; (with_reducible refine (cFd _ _ (hx3.sl hl0)).mono ?_; rintro e w4 ⟨rfl, hb4⟩; have hb4a := nxA hb4 (.cells #[.int .i64 fa, .int .i64 fs, .int .i64 fu] 42); have b4 := next b3 hb4a; have hx4 := hx3.below hb4a; have hbs4 := hbs.below hb4a; have s4 := HS.out.below b4; have X4 := bxX_new w4 fa fs fu))
      | (go_at_call 24; (with_reducible refine (kept_any _ _ _ _ zs _ hx4 s4 hm).mono ?_; rintro e w' ⟨rfl, rfl⟩))
      | (go_at_call 25; (with_reducible refine (cRr _ b4).mono ?_; rintro e w5 ⟨mo, mm, mc, rfl, hom, hb5⟩; have b5 := next b4 hb5; have hbs5 := hbs4.below hb5; have X5 := X4.kept hb5))
      | (go_at_call 26; (with_reducible refine (cFr _ b5).mono ?_; rintro e w6 ⟨rfl, hb6⟩; have hb6a := nxA hb6 (.cells #[.int .i64 fa, .int .i64 fs, .int .i64 fu] 42); have b6 := next b5 hb6a; have hbs6 := hbs5.below hb6a; have hom6 := hom.bs.below hb6a; have X6 := X5.kept hb6a; have Y6 := bxX_new w6 fa fs fu))
      | (go_at_call 12; (with_reducible refine (same_xs _ _ _ _ _ _ L _ hbs6 hom6 hL).mono ?_; rintro e w7 ⟨rfl, hb7⟩; have b7 := next b6 hb7; obtain ⟨x0, x1, x2, _⟩ := (X6.kept hb7).cells; obtain ⟨y0, y1, y2, _⟩ := (Y6.kept hb7).cells; simp only at x0 x1 x2 y0 y1 y2)))
    go_ret
    exact ⟨rfl, b7⟩
end Go.Proofs.Ythkloknongkpdaa
