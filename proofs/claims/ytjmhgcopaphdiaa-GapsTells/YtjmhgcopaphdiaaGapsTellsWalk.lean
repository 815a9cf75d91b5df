/- 'GapsTells' walked: needs, right blocks, gaps, what is behind, are the document's. -/
import Derived.Test.YtjmhgcopaphdiaaSmallGap
import Derived.Test.YtjmhgcopaphdiaaRefGapC
namespace Go.Proofs.Ytjmhgcopaphdiaa
set_option maxRecDepth 100000
open Go.RowKit
set_option linter.unusedVariables false
set_option linter.unusedSimpArgs false
set_option maxRecDepth 100000

/-- '[]api.Span{}' in new memory. -/
theorem ownP_empty (B : Nat) (w : World) (hB : B ≤ w.heap.size) : (w.alloc (.cells #[] 34)).ownsRow B 34 2 (.slice (some ⟨w.heap.size, 0, none⟩) 0 0) 0 (cellsP []) :=
  World.ownsRow_made w #[] 0 hB (by unfold maxLen; omega) rfl
set_option maxHeartbeats 2000000 in
theorem gapsTells_walk (w : World) (f : Int) (hf : (Lit.int .i64 f).wf = true) (t : Int) (ht : (Lit.int .i64 t).wf = true) (ao : Option Addr) (n cap : Nat) (l : List Spn) (h : Ps w ao n cap l) (hc : cap * 16 ≤ 140737488351232) (k : Int) (hk : (Lit.int .i64 k).wf = true) (x : Int) (hx : (Lit.int .i64 x).wf = true) :
    Calls Try.prog 3 #[.int .i64 f, .int .i64 t, .slice ao n cap, .int .i64 k, .int .i64 x] w fun e w' => e = .returned (.bool true) ∧ Below w.heap.size w w' := by
  have hroom := h.room
  have hn : n ≤ 9223372036854775806 := by omega
  have hn' : n ≤ 9223372036854775807 := by omega
  have h16 : (0 + n) * 16 ≤ 140737488355328 := by omega
  clear hf ht hk hx
  have HT := hid h
  have c1 := fun w' => need_any x w'
  have c2 := fun w' => rneed_any x w'
  have c3 : ∀ bo c w', Ps w' bo n c l → Calls Try.prog 12 #[.int .i64 f, .int .i64 t, .slice bo n c] w' fun e w'' => ∃ bo m c, e = .returned (.tuple #[.slice bo m c, .int .i64 (gpE f t l)]) ∧ OwP w'.heap.size w'' bo m c (gpL f t l) ∧ Below w'.heap.size w' w'' := fun bo c w' h' => gapsP_ps f t bo n c l w' h' hn'
  have c4 : ∀ w', Below w.heap.size w w' → Calls Try.prog 13 #[.int .i64 f, .int .i64 t, .slice ao n cap] w' fun e w'' => ∃ bo m c, e = .returned (.tuple #[.slice bo m c, .int .i64 (gpE f t l)]) ∧ OwP w'.heap.size w'' bo m c (gpL f t l) ∧ Below w'.heap.size w' w'' := fun w' hb => rgapsP_ps f t ao n cap l w' (HT.out.below hb) hn
  have c5 : ∀ bo c w', Ps w' bo n c l → Calls Try.prog 14 #[.int .i64 f, .int .i64 t, .slice bo n c, .int .i64 k] w' fun e w'' => e = .returned (.tuple #[.int .i64 (bhV f t l k), .int .i64 (bhE f t l k)]) ∧ Below w'.heap.size w' w'' := fun bo c w' h' => behindP_ps f t bo n c l k w' h' hn'
  have c6 : ∀ w', Below w.heap.size w w' → Calls Try.prog 15 #[.int .i64 f, .int .i64 t, .slice ao n cap, .int .i64 k] w' fun e w'' => e = .returned (.tuple #[.int .i64 (bhV f t l k), .int .i64 (bhE f t l k)]) ∧ Below w'.heap.size w' w'' := fun w' hb => rbehindP_ps f t ao n cap l k w' (HT.out.below hb) hn
  have c7 : ∀ bo c w', Ps w' bo n c l → Calls Try.prog 17 #[.int .i64 f, .int .i64 t, .slice bo n c] w' fun e w'' => e = .returned (.bool (rightPB f t l)) ∧ Below w'.heap.size w' w'' := fun bo c w' h' => rightP_ps f t bo n c l w' h' hn'
  have c8 : ∀ w', Below w.heap.size w w' → Calls Try.prog 18 #[.int .i64 f, .int .i64 t, .slice ao n cap] w' fun e w'' => e = .returned (.bool (rightPB f t l)) ∧ Below w'.heap.size w' w'' := fun w' hb => rrightP_ps f t ao n cap l w' (HT.out.below hb) hn'
  have c9 : ∀ bo m c bo' m' c' (g : List Spn) w', OwP w.heap.size w' bo m c g → OwP w.heap.size w' bo' m' c' g → Calls Try.prog 16 #[.slice bo m c, .slice bo' m' c'] w' fun e w'' => e = .returned (.bool true) ∧ Below w'.heap.size w' w'' := fun bo m c bo' m' c' g w' h1 h2 => by
    have := rsame_ps bo m c g bo' m' c' g w' h1.ps h2.ps (by have := h1.cap_le; omega) (by have := h2.cap_le; omega)
    rwa [samP_t rfl] at this
  have c10 : ∀ bo c w', Below w.heap.size w w' → Ps w' bo n c l → Calls Try.prog 16 #[.slice bo n c, .slice ao n cap] w' fun e w'' => e = .returned (.bool true) ∧ Below w'.heap.size w' w'' := fun bo c w' hb h1 => by
    have := rsame_ps bo n c l ao n cap l w' h1 (HT.out.below hb) hn' hn'
    rwa [samP_t rfl] at this
  generalize ndN x = x1 at *
  generalize ndE x = x2 at *
  generalize gpE f t l = x3 at *
  generalize bhV f t l k = x4 at *
  generalize bhE f t l k = x5 at *
  generalize rightPB f t l = x6 at *
  obtain ⟨g, hg⟩ : ∃ g, gpL f t l = g := ⟨_, rfl⟩
  rw [hg] at c3 c4
  clear hg h
  have Hal : Hid (∀ w' : World, ∀ o : Obj, Below w.heap.size w w' → Below w.heap.size w (w'.alloc o)) := fun w' o h => h.alloc h.size o
  go_enter Try.func3, Try.ntmps3
  go_wp2_with (first
    | (go_at_call 9; with_reducible refine (smallP_any _).mono ?_; rintro e w1 ⟨rfl, hb1⟩)
    | (at_builtin; refine append_ps rfl (.tmp 26) (.tmp 27) rfl w.heap.size _ 0 [] rfl (ownP_empty w.heap.size w1 hb1.size) (by intro x hx; cases hx) ao n cap l rfl (HT.out.below (Hal.out _ _ hb1)) h16 (Nat.le_trans hb1.size (by simp)) ?_))
  intro bi ci w2 hi2 hg2
  have b2 : Below w.heap.size w w2 := (Hal.out _ (.cells #[] 34) hb1).grown hg2 (Nat.le_trans hb1.size (by simp)) (by intro j hj; cases hj; exact hb1.size)
  clear hg2 hb1
  go_wp2_with (first
    | (go_at_call 10; with_reducible refine (c1 _).mono ?_; rintro e w3 ⟨rfl, rfl⟩)
    | (go_at_call 11; with_reducible refine (c2 _).mono ?_; rintro e w3 ⟨rfl, rfl⟩)
    | (go_at_call 12; with_reducible refine (c3 _ _ _ hi2.ps).mono ?_; rintro e w3 ⟨bo, m, c, rfl, ho3, hb3⟩; have b3 := next b2 hb3; have hi3 := hi2.below hb3; have hr3 := ho3.mono b2.size; clear ho3 hb3)
    | (go_at_call 13; with_reducible refine (c4 _ b3).mono ?_; rintro e w4 ⟨bo', m', c', rfl, ho4, hb4⟩; have b4 := next b3 hb4; have hi4 := hi3.below hb4; have hr4 := hr3.below hb4; have hq4 := ho4.mono b3.size)
    | (go_at_call 14; with_reducible refine (c5 _ _ _ hi4.ps).mono ?_; rintro e w5 ⟨rfl, hb5⟩; have b5 := next b4 hb5; have hi5 := hi4.below hb5; have hr5 := hr4.below hb5; have hq5 := hq4.below hb5; clear hb5)
    | (go_at_call 15; with_reducible refine (c6 _ b5).mono ?_; rintro e w6 ⟨rfl, hb6⟩; have b6 := next b5 hb6; have hi6 := hi5.below hb6; have hr6 := hr5.below hb6; have hq6 := hq5.below hb6; clear hb6)
    | (go_at_call 16; with_reducible refine (c9 _ _ _ _ _ _ _ _ hr6 hq6).mono ?_; rintro e w7 ⟨rfl, hb7⟩; have b7 := next b6 hb7; have hi7 := hi6.below hb7; clear hb7)
    | (go_at_call 17; with_reducible refine (c7 _ _ _ hi7.ps).mono ?_; rintro e w8 ⟨rfl, hb8⟩; have b8 := next b7 hb8; have hi8 := hi7.below hb8; clear hb8)
    | (go_at_call 18; with_reducible refine (c8 _ b8).mono ?_; rintro e w9 ⟨rfl, hb9⟩; have b9 := next b8 hb9; have hi9 := hi8.below hb9; clear hb9)
    | (go_at_call 16; with_reducible refine (c10 _ _ _ b9 hi9.ps).mono ?_; rintro e w10 ⟨rfl, hb10⟩; have b10 := next b9 hb10; clear hb10))
  go_ret
  exact ⟨rfl, b10⟩
end Go.Proofs.Ytjmhgcopaphdiaa
