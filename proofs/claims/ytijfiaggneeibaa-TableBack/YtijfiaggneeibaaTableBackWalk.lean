/- joistlaw08.TableBack walked: it returns true. -/
import Derived.Test.YtijfiaggneeibaaSmallTab
import Derived.Test.YtijfiaggneeibaaTabJ
import Derived.Test.YtijfiaggneeibaaRefTabA
namespace Go.Proofs.Ytijfiaggneeibaa
set_option maxRecDepth 100000
open Go.RowKit
set_option linter.unusedVariables false
set_option linter.unusedSimpArgs false
set_option maxRecDepth 100000

theorem owT_zero {B : Nat} {w : World} {ao : Option Addr} {m c : Nat} (h : OwT B w ao m c []) : m = 0 := h.len.symm
set_option maxHeartbeats 2000000 in
theorem tableBack_walk (W : World) (ao : Option Addr) (n cap : Nat) (l : List Slt) (h : Tb W ao n cap l) (hc : cap * 32 ≤ 140737488351232) (bo : Option Addr) (m c : Nat) (zs : List Int) (hs : Sl .u8 W bo m c zs) (hw : ∀ z ∈ zs, (Lit.int .u8 z).wf = true) (hr : c * 1 ≤ 140737488351232) :
    Calls Try.prog 7 #[.slice ao n cap, .slice bo m c] W fun e W' => e = .returned (.bool true) ∧ Below W.heap.size W W' := by
  have hl := h.len
  have hroom := h.room
  have hn : n ≤ 9223372036854775807 := by omega
  have hm : m ≤ 140737488355328 := by have := hs.room; omega
  have hby := bytes_wf hw
  have cRi : ∀ w, Below W.heap.size W w → Calls Try.prog 17 #[.slice ao n cap] w fun e w' => e = .returned (.bool (rightB l)) ∧ Below w.heap.size w w' := fun w hb => right_tb ao n cap l w (h.below hb) hn
  have cBy : ∀ w, Below W.heap.size W w → _ := fun w hb => tbytes_tb ao n cap l w (h.below hb) hn
  have cRd : ∀ w, Below W.heap.size W w → _ := fun w hb => tread_any bo m c zs w (hs.below hb) hby hm
  have Hs := hid hs
  have Hh := hid h
  by_cases hR : RightT l
  · have cRx : ∀ (a : Option Addr) (k d : Nat) (w : World), Sl .u8 w a k d (ofL (rowT l)) → Calls Try.prog 29 #[.slice a k d] w fun e w' => ∃ bo m c, e = .returned (.tuple #[.slice bo m c, .bool true]) ∧ OwT w.heap.size w' bo m c l ∧ Below w.heap.size w w' := fun a k d w hx => by
      obtain ⟨e1, e2⟩ := rd_row hR
      have hlx := hx.len
      rw [ofL_length, rowT_length] at hlx
      have hR' := hR.len
      have := tread_any a k d (ofL (rowT l)) w hx (ofL_bytes _) (by omega)
      rwa [(rd_t e2).1, (rd_t e2).2, e1] at this
    have cSa : ∀ (a : Option Addr) (k d : Nat) (w : World), Below W.heap.size W w → Tb w a k d l → k ≤ 9223372036854775807 → Calls Try.prog 16 #[.slice ao n cap, .slice a k d] w fun e w' => e = .returned (.bool true) ∧ Below w.heap.size w w' := fun a k d w hb ht hk => by
      have := rsame_tb ao n cap l a k d l w (h.below hb) ht hn hk
      rwa [samB_t rfl] at this
    rw [rightB_t hR] at cRi
    rw [(bt_t hR).1, (bt_t hR).2] at cBy
    by_cases hD : RdOk zs
    · rw [(rd_t hD).1, (rd_t hD).2] at cRd
      have cB2 : ∀ (a : Option Addr) (k d : Nat) (w : World), Tb w a k d (rdT zs) → k ≤ 9223372036854775807 → Calls Try.prog 28 #[.slice a k d] w fun e w' => ∃ bo m c, e = .returned (.tuple #[.slice bo m c, .int .i64 0]) ∧ Own .u8 5 w.heap.size w' bo m c zs ∧ Below w.heap.size w w' := fun a k d w ht hk => by
        have := tbytes_tb a k d (rdT zs) w ht hk
        rwa [(bt_t hD.1).1, (bt_t hD.1).2, hD.2] at this
      have cR2 : ∀ (a : Option Addr) (k d : Nat) (w : World), Tb w a k d (rdT zs) → k ≤ 9223372036854775807 → Calls Try.prog 17 #[.slice a k d] w fun e w' => e = .returned (.bool true) ∧ Below w.heap.size w w' := fun a k d w ht hk => by
        have := right_tb a k d (rdT zs) w ht hk
        rwa [rightB_t hD.1] at this
      generalize rdT zs = L at *
      generalize ofL (rowT l) = xs at *
      clear hD hR h hs
      go_enter Try.func7, Try.ntmps7
      go_wp2_with (first
        | (go_at_call 9; with_reducible refine (small_any _).mono ?_; rintro e w1 ⟨rfl, hb1⟩)
        | (go_at_call 28; with_reducible refine (cBy w1 hb1).mono ?_; rintro e w2 ⟨a2, m2, k2, rfl, ho2, hb2⟩; have b2 := next hb1 hb2)
        | (go_at_call 17; with_reducible refine (cRi w2 b2).mono ?_; rintro e w3 ⟨rfl, hb3⟩; have b3 := next b2 hb3)
        | (go_at_call 29; with_reducible refine (cRx a2 m2 k2 w3 (ho2.sl.below hb3)).mono ?_; rintro e w4 ⟨a4, m4, k4, rfl, ho4, hb4⟩; have b4 := next b3 hb4)
        | (go_at_call 16; with_reducible refine (cSa a4 m4 k4 w4 b4 ho4.tb (by have := ho4.cap_le; omega)).mono ?_; rintro e w5 ⟨rfl, hb5⟩; have b5 := next b4 hb5)
        | (go_at_call 29; with_reducible refine (cRd w5 b5).mono ?_; rintro e w6 ⟨a6, m6, k6, rfl, ho6, hb6⟩; have b6 := next b5 hb6)
        | (go_at_call 28; with_reducible refine (cB2 a6 m6 k6 w6 ho6.tb (by have := ho6.cap_le; omega)).mono ?_; rintro e w7 ⟨a7, m7, k7, rfl, ho7, hb7⟩; have b7 := next b6 hb7;
           have t7 := ho7.sl.text (P := Try.prog) Try.underlying45 Try.underlying5 Try.underlying9; have u7 := (Hs.out.below b7).text (P := Try.prog) Try.underlying45 Try.underlying5 Try.underlying9)
        | (go_at_call 17; with_reducible refine (cR2 a6 m6 k6 w7 (ho6.tb.below hb7) (by have := ho6.cap_le; omega)).mono ?_; rintro e w8 ⟨rfl, hb8⟩))
      all_goals (go_ret; exact ⟨rfl, next b7 hb8⟩)
    · have e1 := rd_f hD
      rw [e1.1, e1.2] at cRd
      generalize ofL (rowT l) = xs at *
      clear hD hR h hs e1
      go_enter Try.func7, Try.ntmps7
      go_wp2_with (first
        | (go_at_call 9; with_reducible refine (small_any _).mono ?_; rintro e w1 ⟨rfl, hb1⟩)
        | (go_at_call 28; with_reducible refine (cBy w1 hb1).mono ?_; rintro e w2 ⟨a2, m2, k2, rfl, ho2, hb2⟩; have b2 := next hb1 hb2)
        | (go_at_call 17; with_reducible refine (cRi w2 b2).mono ?_; rintro e w3 ⟨rfl, hb3⟩; have b3 := next b2 hb3)
        | (go_at_call 29; with_reducible refine (cRx a2 m2 k2 w3 (ho2.sl.below hb3)).mono ?_; rintro e w4 ⟨a4, m4, k4, rfl, ho4, hb4⟩; have b4 := next b3 hb4)
        | (go_at_call 16; with_reducible refine (cSa a4 m4 k4 w4 b4 ho4.tb (by have := ho4.cap_le; omega)).mono ?_; rintro e w5 ⟨rfl, hb5⟩; have b5 := next b4 hb5)
        | (go_at_call 29; with_reducible refine (cRd w5 b5).mono ?_; rintro e w6 ⟨a6, m6, k6, rfl, ho6, hb6⟩; have b6 := next b5 hb6; obtain rfl := owT_zero ho6))
      go_ret
      exact ⟨rfl, b6⟩
  · rw [rightB_f hR] at cRi
    rw [(bt_f hR).1, (bt_f hR).2] at cBy
    by_cases hD : RdOk zs
    · rw [(rd_t hD).1, (rd_t hD).2] at cRd
      have cB2 : ∀ (a : Option Addr) (k d : Nat) (w : World), Tb w a k d (rdT zs) → k ≤ 9223372036854775807 → Calls Try.prog 28 #[.slice a k d] w fun e w' => ∃ bo m c, e = .returned (.tuple #[.slice bo m c, .int .i64 0]) ∧ Own .u8 5 w.heap.size w' bo m c zs ∧ Below w.heap.size w w' := fun a k d w ht hk => by
        have := tbytes_tb a k d (rdT zs) w ht hk
        rwa [(bt_t hD.1).1, (bt_t hD.1).2, hD.2] at this
      have cR2 : ∀ (a : Option Addr) (k d : Nat) (w : World), Tb w a k d (rdT zs) → k ≤ 9223372036854775807 → Calls Try.prog 17 #[.slice a k d] w fun e w' => e = .returned (.bool true) ∧ Below w.heap.size w w' := fun a k d w ht hk => by
        have := right_tb a k d (rdT zs) w ht hk
        rwa [rightB_t hD.1] at this
      generalize rdT zs = L at *
      clear hD hR h hs
      go_enter Try.func7, Try.ntmps7
      go_wp2_with (first
        | (go_at_call 9; with_reducible refine (small_any _).mono ?_; rintro e w1 ⟨rfl, hb1⟩)
        | (go_at_call 28; with_reducible refine (cBy w1 hb1).mono ?_; rintro e w2 ⟨a2, m2, k2, rfl, ho2, hb2⟩; have b2 := next hb1 hb2)
        | (go_at_call 17; with_reducible refine (cRi w2 b2).mono ?_; rintro e w3 ⟨rfl, hb3⟩; have b3 := next b2 hb3)
        | (go_at_call 29; with_reducible refine (cRd w3 b3).mono ?_; rintro e w6 ⟨a6, m6, k6, rfl, ho6, hb6⟩; have b6 := next b3 hb6)
        | (go_at_call 28; with_reducible refine (cB2 a6 m6 k6 w6 ho6.tb (by have := ho6.cap_le; omega)).mono ?_; rintro e w7 ⟨a7, m7, k7, rfl, ho7, hb7⟩; have b7 := next b6 hb7;
           have t7 := ho7.sl.text (P := Try.prog) Try.underlying45 Try.underlying5 Try.underlying9; have u7 := (Hs.out.below b7).text (P := Try.prog) Try.underlying45 Try.underlying5 Try.underlying9)
        | (go_at_call 17; with_reducible refine (cR2 a6 m6 k6 w7 (ho6.tb.below hb7) (by have := ho6.cap_le; omega)).mono ?_; rintro e w8 ⟨rfl, hb8⟩))
      all_goals (go_ret; exact ⟨rfl, next b7 hb8⟩)
    · have e1 := rd_f hD
      rw [e1.1, e1.2] at cRd
      clear hD hR h hs e1
      go_enter Try.func7, Try.ntmps7
      go_wp2_with (first
        | (go_at_call 9; with_reducible refine (small_any _).mono ?_; rintro e w1 ⟨rfl, hb1⟩)
        | (go_at_call 28; with_reducible refine (cBy w1 hb1).mono ?_; rintro e w2 ⟨a2, m2, k2, rfl, ho2, hb2⟩; have b2 := next hb1 hb2)
        | (go_at_call 17; with_reducible refine (cRi w2 b2).mono ?_; rintro e w3 ⟨rfl, hb3⟩; have b3 := next b2 hb3)
        | (go_at_call 29; with_reducible refine (cRd w3 b3).mono ?_; rintro e w6 ⟨a6, m6, k6, rfl, ho6, hb6⟩; have b6 := next b3 hb6; obtain rfl := owT_zero ho6))
      go_ret
      exact ⟨rfl, b6⟩
end Go.Proofs.Ytijfiaggneeibaa
