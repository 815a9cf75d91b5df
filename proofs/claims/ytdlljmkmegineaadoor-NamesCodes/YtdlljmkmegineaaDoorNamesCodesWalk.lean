/- joistlaw06.NamesCodes: the walk. -/
import Derived.Test.YtdlljmkmegineaaDoorSmallNames
import Derived.Test.YtdlljmkmegineaaDoorRefNBytes
import Derived.Test.YtdlljmkmegineaaDoorRefNRead
import Derived.Test.YtdlljmkmegineaaDoorRowsL
namespace Go.Proofs.YtdlljmkmegineaaDoor
open Go.RowKit
set_option linter.unusedVariables false
set_option linter.unusedSimpArgs false

/-- What both writers answer. -/
theorem bytes_both (s : ByteArray) (hs : s.size ≤ 9223372036854775807) : ∃ (E : Int) (M : Nat) (ZZ : List Int),
    (∀ w, Calls Tryd.prog 14 #[.string s] w fun e w' => ∃ xo xc, e = .returned (.tuple #[.slice xo M xc, .int .i64 E]) ∧ Own .u8 5 w.heap.size w' xo M xc ZZ ∧ Below w.heap.size w w') ∧
    (∀ w, Calls Tryd.prog 17 #[.string s] w fun e w' => ∃ xo xc, e = .returned (.tuple #[.slice xo M xc, .int .i64 E]) ∧ Own .u8 5 w.heap.size w' xo M xc ZZ ∧ Below w.heap.size w w') := by
  cases h : okS s.data.toList with
  | false =>
    exact ⟨3, 0, [], fun w => (bytes_bad s w hs h).mono fun e w' ⟨h1, h2⟩ => ⟨none, 0, h1, own_nil _ _ _ _, h2⟩, fun w => (refBytes_bad s w hs h).mono fun e w' ⟨h1, h2⟩ => ⟨none, 0, h1, own_nil _ _ _ _, h2 ▸ Below.refl _ _⟩⟩
  | true =>
    exact ⟨0, 16, pad s.data.toList, fun w => (bytes_ok s w hs h).mono fun e w' ⟨g, h1, h2, h3⟩ => ⟨_, _, h1, h2, h3⟩, fun w => (refBytes_ok s w hs h).mono fun e w' ⟨g, h1, h2, h3⟩ => ⟨_, _, h1, h2, h3⟩⟩

set_option maxRecDepth 100000
theorem namesCodes_walk (w : World) (s : ByteArray) (hs : s.size ≤ maxLen) (a0 : Option Addr) (n cap : Nat) (zs : List Int) (s0 : Sl .u8 w a0 n cap zs) (hwf : ∀ z ∈ zs, (Lit.int .u8 z).wf = true) (hreach : cap * 1 ≤ 140737488351232) :
    Calls Tryd.prog 4 #[.string s, .slice a0 n cap] w fun e w' => e = .returned (.bool true) ∧ Below w.heap.size w w' := by
  have hs' : s.size ≤ 9223372036854775807 := by unfold maxLen at hs; omega
  have hby := bytes_wf hwf
  have hl0 := s0.len
  have hr0 := s0.room
  have n0 : n ≤ 140737488355328 := by omega
  have nc : n + 1 ≤ 9223372036854775807 := by omega
  have cc : cap ≤ 9223372036854775807 := by omega
  obtain ⟨E, M, ZZ, c14, c17⟩ := bytes_both s hs'
  obtain ⟨t, ht⟩ : ∃ t : ByteArray, (⟨(readT zs).toArray⟩ : ByteArray) = t := ⟨_, rfl⟩
  obtain ⟨b, hb⟩ : ∃ b, readB zs = b := ⟨_, rfl⟩
  have c15 := fun (w : World) (g : Nat) (hS : Sl .u8 w (some ⟨g, 0, none⟩) n (n + 1) zs) => read_any (some ⟨g, 0, none⟩) n (n + 1) zs w hS hby nc
  have c18 := fun (w : World) (hS : Sl .u8 w a0 n cap zs) => refRead_any a0 n cap zs w hS hby cc
  rw [ht, hb] at c15 c18
  clear ht hb hwf
  go_enter Tryd.func4, Tryd.ntmps4
  go_wp2_with (first
    | (go_at_call 8; with_reducible refine (small_any _).mono ?_; rintro e w1 ⟨rfl, hb1⟩; have p0 := s0.below hb1)
    | (go_at_call 13; with_reducible refine (lent_any _ _ _ zs _ p0 n0).mono ?_; rintro e w2 ⟨rfl, hx, hb2⟩; have q0 := p0.below hb2)
    | (go_at_call 14; with_reducible refine (c14 _).mono ?_; rintro e w3 ⟨xo, xc, rfl, hX, hb3⟩; have hx3 := hx.below hb3; have r0 := q0.below hb3; have sl3 := hx3.sl hl0)
    | (go_at_call 15; with_reducible refine (c15 _ _ sl3).mono ?_; rintro e w4 ⟨rfl, hb4⟩; have hx4 := hx3.below hb4; have v0 := r0.below hb4; have hX4 := hX.below hb4)
    | (go_at_call 16; with_reducible refine (kept_any _ _ _ _ zs _ hx4 v0 n0).mono ?_; rintro e w' ⟨rfl, rfl⟩)
    | (go_at_call 17; with_reducible refine (c17 _).mono ?_; rintro e w5 ⟨yo, yc, rfl, hY, hb5⟩; have hx5 := hx4.below hb5; have u0 := v0.below hb5; have hX5 := hX4.below hb5)
    | (go_at_call 18; with_reducible refine (c18 _ u0).mono ?_; rintro e w' ⟨rfl, rfl⟩;
       have tx := hX5.sl.text (P := Tryd.prog) Tryd.underlying25 Tryd.underlying5 Tryd.underlying9; have ty := hY.sl.text (P := Tryd.prog) Tryd.underlying25 Tryd.underlying5 Tryd.underlying9;
       have hlx := hx.lt;
       have rx := hX5.rowb;
       have cO := owned_two (B := w1.heap.size) (rx.mono hb2.size) (hx5.rowd hl0 n0) (fun hc _ e => (by have h3 := (rx.spot hc).2.1; rw [e] at h3; omega)))
    | (go_at_call 19; with_reducible refine cO.mono ?_; rintro e w6 ⟨rfl, ho⟩))
  have hbA : Below w5.heap.size w5 (w5.alloc (.cells #[.slice xo M xc, .slice (some ⟨w1.heap.size, 0, none⟩) n (n + 1)] 25)) := (Below.refl _ _).alloc (Nat.le_refl _) _
  have hs15 : w1.heap.size ≤ w5.heap.size := Nat.le_trans hb2.size (Nat.le_trans hb3.size (Nat.le_trans hb4.size hb5.size))
  have hbo := ho.below (B := w1.heap.size) (fun j hj => (by rcases hj with hj | hj <;> rw [hj.1]; exact Nat.le_trans hb2.size (rx.spot hj.2).2.1; exact Nat.le_refl _)) (Nat.le_trans hs15 hbA.size)
  have hb6 : Below w.heap.size w w6 := (next (next (next (next (next hb1 hb2) hb3) hb4) hb5) hbA).trans (hbo.mono hb1.size)
  go_ret
  exact ⟨rfl, hb6⟩
end Go.Proofs.YtdlljmkmegineaaDoor
