/- joistlaw08.TableCodes walked: it returns true. -/
import Derived.Test.YtijfiaggneeibaaSmallTab
import Derived.Test.YtijfiaggneeibaaTabJ
import Derived.Test.YtijfiaggneeibaaRefTabF
import Derived.Test.YtijfiaggneeibaaRowsL
namespace Go.Proofs.Ytijfiaggneeibaa
set_option maxRecDepth 100000
open Go.RowKit
set_option linter.unusedVariables false
set_option linter.unusedSimpArgs false
set_option maxRecDepth 100000

theorem codes_same (a : Option Addr) (n c : Nat) (b : Option Addr) (m d : Nat) (l : List Slt) (w : World) (h : Tb w a n c l) (g : Tb w b m d l) (hn : n ≤ 9223372036854775807) (hm : m ≤ 9223372036854775807) :
    Calls Try.prog 16 #[.slice a n c, .slice b m d] w fun e w' => e = .returned (.bool true) ∧ Below w.heap.size w w' := by
  have := rsame_tb a n c l b m d l w h g hn hm
  rwa [samB_t rfl] at this
theorem ot_fit {B : Nat} {w : World} {ao : Option Addr} {n cap : Nat} {l : List Slt} (h : OwT B w ao n cap l) : n ≤ 9223372036854775807 := by have := h.cap_le; omega
set_option maxHeartbeats 2000000 in
theorem tableCodes_walk (W : World) (ao : Option Addr) (n cap : Nat) (l : List Slt) (h : Tb W ao n cap l) (hc : cap * 32 ≤ 140737488351232) (bo : Option Addr) (m c : Nat) (zs : List Int) (hs : Sl .u8 W bo m c zs) (hw : ∀ z ∈ zs, (Lit.int .u8 z).wf = true) (hr : c * 1 ≤ 140737488351232) :
    Calls Try.prog 5 #[.slice ao n cap, .slice bo m c] W fun e W' => e = .returned (.bool true) ∧ Below W.heap.size W W' := by
  have hroom := h.room
  have hn : n ≤ 9223372036854775807 := by omega
  have hm : m ≤ 140737488355328 := by have := hs.room; omega
  have hl0 := hs.len
  have hby := bytes_wf hw
  have cBy := fun w (hb : Below W.heap.size W w) => tbytes_tb ao n cap l w (h.below hb) hn
  have cBr := fun w (hb : Below W.heap.size W w) => rbytes_tb ao n cap l w (h.below hb) hn
  have cRd := fun (w : World) (g : Nat) (hS : Sl .u8 w (some ⟨g, 0, none⟩) m (m + 1) zs) => tread_any (some ⟨g, 0, none⟩) m (m + 1) zs w hS hby hm
  have cRr := fun w (hb : Below W.heap.size W w) => rread_any bo m c zs w (hs.below hb) hby hm
  generalize btE l = E at *
  generalize btL l = X at *
  generalize rdB zs = rb at *
  generalize rdL zs = RL at *
  have HS := hid hs
  clear h hw hs
  go_enter Try.func5, Try.ntmps5
  go_wp2_with (first
    | (go_at_call 9; with_reducible refine (small_any _).mono ?_; rintro e w1 ⟨rfl, hb1⟩; have s1 := HS.out.below hb1)
    | (go_at_call 27; with_reducible refine (lent_any _ _ _ zs _ s1 hm).mono ?_; rintro e w2 ⟨rfl, hx, hb2⟩; have b2 := next hb1 hb2)
    | (go_at_call 28; with_reducible refine (cBy w2 b2).mono ?_; rintro e w3 ⟨xo, xm, xc, rfl, hX, hb3⟩; have b3 := next b2 hb3; have hx3 := hx.below hb3; have sl3 := hx3.sl hl0)
    | (go_at_call 29; with_reducible refine (cRd w3 _ sl3).mono ?_; rintro e w4 ⟨a4, m4, k4, rfl, ho4, hb4⟩; have b4 := next b3 hb4; have hx4 := hx3.below hb4; have hX4 := hX.below hb4; have s4 := HS.out.below b4)
    | (go_at_call 30; with_reducible refine (kept_any _ _ _ _ zs _ hx4 s4 hm).mono ?_; rintro e w' ⟨rfl, rfl⟩)
    | (go_at_call 31; with_reducible refine (cBr w4 b4).mono ?_; rintro e w5 ⟨yo, ym, yc, rfl, hY, hb5⟩; have b5 := next b4 hb5; have hx5 := hx4.below hb5; have hX5 := hX4.below hb5; have o5 := ho4.below hb5)
    | (go_at_call 32; with_reducible refine (cRr w5 b5).mono ?_; rintro e w6 ⟨a6, m6, k6, rfl, ho6, hb6⟩; have b6 := next b5 hb6; have hx6 := hx5.below hb6; have hX6 := hX5.below hb6; have hY6 := hY.below hb6; have o6 := o5.below hb6;
       have tx := hX6.sl.text (P := Try.prog) Try.underlying45 Try.underlying5 Try.underlying9; have ty := hY6.sl.text (P := Try.prog) Try.underlying45 Try.underlying5 Try.underlying9)
    | (go_at_call 16; with_reducible refine (codes_same a4 m4 k4 a6 m6 k6 RL w6 o6.tb ho6.tb (ot_fit o6) (ot_fit ho6)).mono ?_; rintro e w7 ⟨rfl, hb7⟩; have b7 := next b6 hb7; have hx7 := hx6.below hb7; have rx := (hX6.below hb7).rowb; have hlx := hx.lt;
       have cO := owned_two (B := w1.heap.size) (rx.mono hb2.size) (hx7.rowd hl0 hm) (fun hc _ e => (by have h3 := (rx.spot hc).2.1; rw [e] at h3; omega)))
    | (go_at_call 33; with_reducible refine cO.mono ?_; rintro e w8 ⟨rfl, ho⟩))
  have hbA : Below w7.heap.size w7 (w7.alloc (.cells #[.slice xo xm xc, .slice (some ⟨w1.heap.size, 0, none⟩) m (m + 1)] 45)) := (Below.refl _ _).alloc (Nat.le_refl _) _
  have hs17 : w1.heap.size ≤ w7.heap.size := Nat.le_trans hb2.size (Nat.le_trans hb3.size (Nat.le_trans hb4.size (Nat.le_trans hb5.size (Nat.le_trans hb6.size hb7.size))))
  have hbo := ho.below (B := w1.heap.size) (fun j hj => (by rcases hj with hj | hj <;> rw [hj.1]; exact Nat.le_trans hb2.size (rx.spot hj.2).2.1; exact Nat.le_refl _)) (Nat.le_trans hs17 hbA.size)
  have b8 : Below W.heap.size W w8 := (next b7 hbA).trans (hbo.mono hb1.size)
  go_ret
  exact ⟨rfl, b8⟩
end Go.Proofs.Ytijfiaggneeibaa
