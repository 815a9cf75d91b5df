/- joistlaw09.RootsBack walked: it returns true. -/
import Derived.Test.YtmefepjjlhphnaaDoorSmallRoot
import Derived.Test.YtmefepjjlhphnaaDoorRootF
import Derived.Test.YtmefepjjlhphnaaDoorRefRootA
namespace Go.Proofs.YtmefepjjlhphnaaDoor
set_option maxRecDepth 100000
open Go.RowKit
set_option linter.unusedVariables false
set_option linter.unusedSimpArgs false
set_option maxRecDepth 100000

set_option maxHeartbeats 4000000 in
theorem rootsBack_walk (w : World) (ao : Option Addr) (n cap : Nat) (l : List Rt) (h : Rs w ao n cap l) (hreach : cap * 32 ≤ 140737488351232) (bo : Option Addr) (m c : Nat) (zs : List Int) (hs : Sl .u8 w bo m c zs) (hw : ∀ z ∈ zs, (Lit.int .u8 z).wf = true) (hr : c * 1 ≤ 140737488351232) :
    Calls Tryd.prog 4 #[.slice ao n cap, .slice bo m c] w fun e w' => e = .returned (.bool true) ∧ Below w.heap.size w w' := by
  have hl := h.len
  have hroom := h.room
  have hn : n ≤ 9223372036854775806 := by omega
  have hn' : n ≤ 9223372036854775807 := by omega
  have hby := bytes_wf hw
  have cF : ∀ wr, Below w.heap.size w wr → _ := fun wr hb => few_rs ao n cap l wr (h.below hb) hn
  by_cases hf : FewR l
  · rw [fewB_t hf] at cF
    have hn40 : n ≤ 40 := by have := hf.1; omega
    have HT := hid h
    have Hs := hid hs
    have cR : ∀ wr, Below w.heap.size w wr → _ := fun wr hb => rightR_rs ao n cap l wr (h.below hb) hn'
    have cZ : ∀ wr, Below w.heap.size w wr → _ := fun wr hb => readR_any bo m c zs wr (hs.below hb) hby (by omega)
    have cB : ∀ wr, Below w.heap.size w wr → _ := fun wr hb => bytesR_rs ao n cap l wr (h.below hb) hn'
    by_cases hR : RightR l
    · rw [rightRB_t hR] at cR
      have hX := rd_rows hR
      have hXl := rowsR_length hR.may
      have cB' : ∀ wr, Below w.heap.size w wr → Calls Tryd.prog 8 #[.slice ao n cap] wr fun e w' => ∃ bo k c, e = .returned (.tuple #[.slice bo k c, .int .i64 0]) ∧ Own .u8 5 wr.heap.size w' bo k c (rowsR l) ∧ Below wr.heap.size wr w' := fun wr hb => (cB wr hb).mono (by
        rintro e w' ⟨a, k, c, rfl, ho, hb'⟩
        rw [(rb_t hR).2] at ho
        exact ⟨a, k, c, by rw [(rb_t hR).1], ho, hb'⟩)
      have cX : ∀ a k c wr, Own .u8 5 w.heap.size wr a k c (rowsR l) → Calls Tryd.prog 9 #[.slice a k c] wr fun e w' => ∃ bo c, e = .returned (.tuple #[.slice bo n c, .bool true]) ∧ OwR wr.heap.size w' bo n c l ∧ Below wr.heap.size wr w' := fun a k c wr ho => (readR_any a k c _ wr ho.sl (rowsR_bytes l) ho.cap_le.2).mono (by
        rintro e w' ⟨b, k, c, rfl, ho, hb'⟩
        rw [(rr_t hX.2).2, hX.1] at ho
        obtain rfl : n = k := by rw [← ho.len, hl]
        exact ⟨b, c, by rw [(rr_t hX.2).1], ho, hb'⟩)
      have cS : ∀ a c wr, Below w.heap.size w wr → Rs wr a n c l → Calls Tryd.prog 13 #[.slice ao n cap, .slice a n c] wr fun e w' => e = .returned (.bool true) ∧ Below wr.heap.size wr w' := fun a c wr hb h2 => by
        have := rsame_rs ao n cap l a n c l wr (HT.out.below hb) h2 hn hn
        rwa [samR_t rfl] at this
      by_cases hZ : RdR zs
      · rw [(rr_t hZ).1, (rr_t hZ).2] at cZ
        have cY : ∀ a k c wr, OwR w.heap.size wr a k c (rtL zs) → Calls Tryd.prog 8 #[.slice a k c] wr fun e w' => ∃ bo k c, e = .returned (.tuple #[.slice bo k c, .int .i64 0]) ∧ Own .u8 5 wr.heap.size w' bo k c zs ∧ Below wr.heap.size wr w' := fun a k c wr ho => (bytesR_rs a k c _ wr ho.rs (by have := ho.cap_le; omega)).mono (by
          rintro e w' ⟨a, k, c, rfl, ho, hb'⟩
          rw [(rb_t hZ.1).2, hZ.2] at ho
          exact ⟨a, k, c, by rw [(rb_t hZ.1).1], ho, hb'⟩)
        clear h hs hl hroom hreach hf hR hX hXl hZ hw hby cB
        generalize rowsR l = X at *
        generalize rtL zs = Y at *
        go_enter Tryd.func4, Tryd.ntmps4
        go_wp2_with (first
          | (go_at_call 5; with_reducible refine (smallR_any _).mono ?_; rintro e w1 ⟨rfl, b1⟩)
          | (go_at_call 6; with_reducible refine (cF _ b1).mono ?_; rintro e w' ⟨rfl, rfl⟩)
          | (go_at_call 8; with_reducible refine (cB' _ b1).mono ?_; rintro e w2 ⟨a2, m2, k2, rfl, o2, hb2⟩; have b2 := next b1 hb2)
          | (go_at_call 15; with_reducible refine (cR _ b2).mono ?_; rintro e w3 ⟨rfl, hb3⟩; have b3 := next b2 hb3; have o3 := (o2.mono b1.size).below hb3)
          | (go_at_call 9; with_reducible refine (cX a2 m2 k2 w3 o3).mono ?_; rintro e w4 ⟨a4, k4, rfl, o4, hb4⟩; have b4 := next b3 hb4)
          | (go_at_call 13; with_reducible refine (cS a4 k4 w4 b4 o4.rs).mono ?_; rintro e w5 ⟨rfl, hb5⟩; have b5 := next b4 hb5)
          | (go_at_call 9; with_reducible refine (cZ _ b5).mono ?_; rintro e w6 ⟨a6, m6, k6, rfl, o6, hb6⟩; have b6 := next b5 hb6)
          | (go_at_call 8; with_reducible refine (cY a6 m6 k6 w6 (o6.mono b5.size)).mono ?_; rintro e w7 ⟨a7, m7, k7, rfl, o7, hb7⟩; have b7 := next b6 hb7; have tx := o7.sl.text (P := Tryd.prog) Tryd.underlying23 Tryd.underlying5 Tryd.underlying9; have ty := (Hs.out.below b7).text (P := Tryd.prog) Tryd.underlying23 Tryd.underlying5 Tryd.underlying9))
        go_ret
        exact ⟨rfl, b7⟩
      · rw [(rr_f hZ).1, (rr_f hZ).2] at cZ
        have cZ' : ∀ wr, Below w.heap.size w wr → Calls Tryd.prog 9 #[.slice bo m c] wr fun e w' => ∃ b c, e = .returned (.tuple #[.slice b 0 c, .bool false]) ∧ Below wr.heap.size wr w' := fun wr hb => (cZ wr hb).mono (by
          rintro e w' ⟨b, k, c, rfl, ho, hb'⟩
          obtain rfl : 0 = k := ho.len
          exact ⟨b, c, rfl, hb'⟩)
        clear h hs hl hroom hreach hf hR hX hXl hZ hw hby cB cZ
        generalize rowsR l = X at *
        go_enter Tryd.func4, Tryd.ntmps4
        go_wp2_with (first
          | (go_at_call 5; with_reducible refine (smallR_any _).mono ?_; rintro e w1 ⟨rfl, b1⟩)
          | (go_at_call 6; with_reducible refine (cF _ b1).mono ?_; rintro e w' ⟨rfl, rfl⟩)
          | (go_at_call 8; with_reducible refine (cB' _ b1).mono ?_; rintro e w2 ⟨a2, m2, k2, rfl, o2, hb2⟩; have b2 := next b1 hb2)
          | (go_at_call 15; with_reducible refine (cR _ b2).mono ?_; rintro e w3 ⟨rfl, hb3⟩; have b3 := next b2 hb3; have o3 := (o2.mono b1.size).below hb3)
          | (go_at_call 9; with_reducible refine (cX a2 m2 k2 w3 o3).mono ?_; rintro e w4 ⟨a4, k4, rfl, o4, hb4⟩; have b4 := next b3 hb4)
          | (go_at_call 13; with_reducible refine (cS a4 k4 w4 b4 o4.rs).mono ?_; rintro e w5 ⟨rfl, hb5⟩; have b5 := next b4 hb5)
          | (go_at_call 9; with_reducible refine (cZ' _ b5).mono ?_; rintro e w6 ⟨a6, k6, rfl, hb6⟩; have b6 := next b5 hb6))
        go_ret
        exact ⟨rfl, b6⟩
    · rw [rightRB_f hR] at cR
      have cB' : ∀ wr, Below w.heap.size w wr → Calls Tryd.prog 8 #[.slice ao n cap] wr fun e w' => ∃ bo k c, e = .returned (.tuple #[.slice bo k c, .int .i64 1]) ∧ Below wr.heap.size wr w' := fun wr hb => (cB wr hb).mono (by
        rintro e w' ⟨a, k, c, rfl, ho, hb'⟩
        exact ⟨a, k, c, by rw [(rb_f hR).1], hb'⟩)
      by_cases hZ : RdR zs
      · rw [(rr_t hZ).1, (rr_t hZ).2] at cZ
        have cY : ∀ a k c wr, OwR w.heap.size wr a k c (rtL zs) → Calls Tryd.prog 8 #[.slice a k c] wr fun e w' => ∃ bo k c, e = .returned (.tuple #[.slice bo k c, .int .i64 0]) ∧ Own .u8 5 wr.heap.size w' bo k c zs ∧ Below wr.heap.size wr w' := fun a k c wr ho => (bytesR_rs a k c _ wr ho.rs (by have := ho.cap_le; omega)).mono (by
          rintro e w' ⟨a, k, c, rfl, ho, hb'⟩
          rw [(rb_t hZ.1).2, hZ.2] at ho
          exact ⟨a, k, c, by rw [(rb_t hZ.1).1], ho, hb'⟩)
        clear h hs hl hroom hreach hf hR hZ hw hby cB
        generalize rtL zs = Y at *
        go_enter Tryd.func4, Tryd.ntmps4
        go_wp2_with (first
          | (go_at_call 5; with_reducible refine (smallR_any _).mono ?_; rintro e w1 ⟨rfl, b1⟩)
          | (go_at_call 6; with_reducible refine (cF _ b1).mono ?_; rintro e w' ⟨rfl, rfl⟩)
          | (go_at_call 8; with_reducible refine (cB' _ b1).mono ?_; rintro e w2 ⟨a2, m2, k2, rfl, hb2⟩; have b2 := next b1 hb2)
          | (go_at_call 15; with_reducible refine (cR _ b2).mono ?_; rintro e w3 ⟨rfl, hb3⟩; have b3 := next b2 hb3)
          | (go_at_call 9; with_reducible refine (cZ _ b3).mono ?_; rintro e w6 ⟨a6, m6, k6, rfl, o6, hb6⟩; have b6 := next b3 hb6)
          | (go_at_call 8; with_reducible refine (cY a6 m6 k6 w6 (o6.mono b3.size)).mono ?_; rintro e w7 ⟨a7, m7, k7, rfl, o7, hb7⟩; have b7 := next b6 hb7; have tx := o7.sl.text (P := Tryd.prog) Tryd.underlying23 Tryd.underlying5 Tryd.underlying9; have ty := (Hs.out.below b7).text (P := Tryd.prog) Tryd.underlying23 Tryd.underlying5 Tryd.underlying9))
        go_ret
        exact ⟨rfl, b7⟩
      · rw [(rr_f hZ).1, (rr_f hZ).2] at cZ
        have cZ' : ∀ wr, Below w.heap.size w wr → Calls Tryd.prog 9 #[.slice bo m c] wr fun e w' => ∃ b c, e = .returned (.tuple #[.slice b 0 c, .bool false]) ∧ Below wr.heap.size wr w' := fun wr hb => (cZ wr hb).mono (by
          rintro e w' ⟨b, k, c, rfl, ho, hb'⟩
          obtain rfl : 0 = k := ho.len
          exact ⟨b, c, rfl, hb'⟩)
        clear h hs hl hroom hreach hf hR hZ hw hby cB cZ
        go_enter Tryd.func4, Tryd.ntmps4
        go_wp2_with (first
          | (go_at_call 5; with_reducible refine (smallR_any _).mono ?_; rintro e w1 ⟨rfl, b1⟩)
          | (go_at_call 6; with_reducible refine (cF _ b1).mono ?_; rintro e w' ⟨rfl, rfl⟩)
          | (go_at_call 8; with_reducible refine (cB' _ b1).mono ?_; rintro e w2 ⟨a2, m2, k2, rfl, hb2⟩; have b2 := next b1 hb2)
          | (go_at_call 15; with_reducible refine (cR _ b2).mono ?_; rintro e w3 ⟨rfl, hb3⟩; have b3 := next b2 hb3)
          | (go_at_call 9; with_reducible refine (cZ' _ b3).mono ?_; rintro e w6 ⟨a6, k6, rfl, hb6⟩; have b6 := next b3 hb6))
        go_ret
        exact ⟨rfl, b6⟩
  · rw [fewB_f hf] at cF
    clear h hs hl hroom hreach hf hw hby
    go_enter Tryd.func4, Tryd.ntmps4
    go_wp2_with (first
      | (go_at_call 5; with_reducible refine (smallR_any _).mono ?_; rintro e w1 ⟨rfl, b1⟩)
      | (go_at_call 6; with_reducible refine (cF _ b1).mono ?_; rintro e w' ⟨rfl, rfl⟩))
    go_ret
    exact ⟨rfl, b1⟩
end Go.Proofs.YtmefepjjlhphnaaDoor
