/- table.Read by its contract. -/
import Derived.Test.YtijfiaggneeibaaTabI
import Derived.Test.YtijfiaggneeibaaAll
import Derived.Test.YtijfiaggneeibaaLine
namespace Go.Proofs.Ytijfiaggneeibaa
set_option maxRecDepth 100000
open Go.RowKit
set_option linter.unusedVariables false
set_option linter.unusedSimpArgs false
set_option maxRecDepth 100000

/-- The first k slots out of words, the others zero. -/
def slK (ws : List Int) (q k : Nat) : List Slt := (List.range q).map fun i => if i < k then slW (ws.getD (i * 4) 0) (ws.getD (i * 4 + 1) 0) (ws.getD (i * 4 + 2) 0) else Slt.z
theorem slK_length (ws : List Int) (q k : Nat) : (slK ws q k).length = q := by simp [slK]
theorem slK_at (ws : List Int) (k : Nat) {q i : Nat} (h : i < q) : (slK ws q k)[i]? = some (if i < k then slW (ws.getD (i * 4) 0) (ws.getD (i * 4 + 1) 0) (ws.getD (i * 4 + 2) 0) else Slt.z) := by simp [slK, h]
theorem slK_zero (ws : List Int) (q : Nat) : slK ws q 0 = List.replicate q Slt.z := by
  apply List.ext_getElem?; intro i
  by_cases h : i < q
  · rw [slK_at ws 0 h, if_neg (by omega)]; simp [h]
  · rw [List.getElem?_eq_none (by rw [slK_length]; omega), List.getElem?_eq_none (by simp; omega)]
theorem slK_full (ws : List Int) (q : Nat) : slK ws q q = slT ws q := by
  apply List.ext_getElem?; intro i
  by_cases h : i < q
  · rw [slK_at ws q h, if_pos h]; simp [slT, h]
  · rw [List.getElem?_eq_none (by rw [slK_length]; omega), List.getElem?_eq_none (by rw [slT_length]; omega)]
theorem slK_set (ws : List Int) (q k : Nat) : (slK ws q k).set k (slW (ws.getD (k * 4) 0) (ws.getD (k * 4 + 1) 0) (ws.getD (k * 4 + 2) 0)) = slK ws q (k + 1) := by
  apply List.ext_getElem?; intro i
  rw [List.getElem?_set]
  by_cases h : i < q
  · rw [slK_at ws (k + 1) h, slK_length]
    by_cases e : k = i
    · subst e
      rw [if_pos rfl, if_pos h, if_pos (by omega)]
    · rw [if_neg e, slK_at ws k h]
      by_cases e2 : i < k
      · rw [if_pos e2, if_pos (by omega)]
      · rw [if_neg e2, if_neg (by omega)]
  · rw [List.getElem?_eq_none (by rw [slK_length]; omega : (slK ws q (k + 1)).length ≤ i)]
    by_cases e : k = i
    · rw [if_pos e, if_neg (by rw [slK_length]; omega)]
    · rw [if_neg e, List.getElem?_eq_none (by rw [slK_length]; omega)]
/-- Bytes that are none's by their number, or whose words are too great. -/
theorem tread_size (ao : Option Addr) (n cap : Nat) (zs : List Int) (w : World) (h : Sl .u8 w ao n cap zs) (hn : n ≤ 140737488355328) (hs : ¬ (n % 32 = 0 ∧ SizT ((n / 32 : Nat) : Int))) :
    Calls Try.prog 29 #[.slice ao n cap] w fun e w' => e = .returned (.tuple #[.slice none 0 0, .bool false]) ∧ Below w.heap.size w w' := by
  by_cases h32 : n % 32 = 0
  · have hs2 : ¬ SizT ((n / 32 : Nat) : Int) := fun e => hs ⟨h32, e⟩
    have cS := sized_any ((n : Int) / 32)
    rw [sizB_f (by rw [show (n : Int) / 32 = ((n / 32 : Nat) : Int) by omega]; exact hs2)] at cS
    have h32' : ((n : Int) % 32 != 0) = false := by simp; omega
    clear hs hs2 h
    go_enter Try.func29, Try.ntmps29
    go_wp2_with (first
      | (go_at_call 34; with_reducible refine (cS _).mono ?_; rintro e w' ⟨rfl, rfl⟩))
    go_ret2
    exact ⟨rfl, Below.refl _ _⟩
  · have h32' : ((n : Int) % 32 != 0) = true := by simp; omega
    clear hs h
    go_enter Try.func29, Try.ntmps29
    go_wp2
    go_ret2
    exact ⟨rfl, Below.refl _ _⟩
set_option maxHeartbeats 2000000 in
theorem tread_words (b off n cap : Nat) (zs : List Int) (w : World) (h : Sl .u8 w (some ⟨b, off, none⟩) n cap zs) (hby : Bytes zs) (q : Nat) (hq : n = q * 32) (hs : SizT (q : Int)) :
    Calls Try.prog 29 #[.slice (some ⟨b, off, none⟩) n cap] w fun e w' => ∃ bo m c, e = .returned (.tuple #[.slice bo m c, .bool (rdB zs)]) ∧ OwT w.heap.size w' bo m c (rdL zs) ∧ Below w.heap.size w w' := by
  have hl := h.len
  obtain ⟨s1, s2, s3⟩ := hs
  have hq32 : q ≤ 32 := by omega
  have cS := sized_any ((n : Int) / 32)
  rw [sizB_t (by rw [show (n : Int) / 32 = (q : Int) by omega]; exact ⟨s1, s2, s3⟩)] at cS
  have h32' : ((n : Int) % 32 != 0) = false := by simp; omega
  have cA := all_any _ n cap zs w h hby (by omega)
  have HQ := hid hq
  have hn9 : n ≤ 1024 := by omega
  cases hA : allB zs with
  | false =>
    have hno : ¬ RdOk zs := fun e => by have := e.size.2.2; rw [hA] at this; cases this
    rw [hA] at cA
    rw [(rd_f hno).1, (rd_f hno).2]
    clear hno h hA hq
    go_enter Try.func29, Try.ntmps29
    go_wp2_with (first
      | (go_at_call 34; with_reducible refine (cS _).mono ?_; rintro e w' ⟨rfl, rfl⟩)
      | (go_at_call 43; with_reducible refine cA.mono ?_; rintro e w1 ⟨a1, m1, k1, rfl, ho1, hb1⟩))
    go_ret2
    exact ⟨none, 0, 0, rfl, owT_nil _ _, hb1⟩
  | true =>
    rw [hA] at cA
    obtain ⟨ws, hws⟩ : ∃ ws, allR zs = ws := ⟨_, rfl⟩
    have lws : ws.length = q * 4 := by rw [← hws, allR_t hA, wdL_length, hl]; omega
    have HRd : Hid (rdT zs = slT ws q) := hid (by unfold rdT; rw [hws, lws, show q * 4 / 4 = q by omega])
    have Hfit : Hid (∀ j, j < q * 4 → fitB (ws.getD j 0) = true) := fun j hj => by
      rw [← hws] at lws ⊢
      exact okL_at (of_all hby hA).1 j (by omega)
    rw [hws] at cA
    obtain ⟨i0, hi, hz0, hz1, hz2⟩ := info_parts Try.info39
    clear hA hws hq
    go_enter Try.func29, Try.ntmps29
    go_wp2_with (first
      | (go_at_call 34; with_reducible refine (cS _).mono ?_; rintro e w' ⟨rfl, rfl⟩)
      | (go_at_call 43; with_reducible refine cA.mono ?_; rintro e w1 ⟨a1, m1, k1, rfl, ho1, hb1⟩; obtain ⟨rfl⟩ : m1 = q * 4 := by rw [← ho1.len, lws])
      | (at_make; refine wpList_make_full _ rfl _ _ 22 rfl w1.heap.size 39 i0 (.agg #[.int .i64 0, .bool false, .bool false, .int .i64 0, .int .i64 0]) 5 Try.underlying22 hi hz0 hz1 .i64 .i64 _ _ q rfl rfl ?b0 ?b1 ?b2 ?b3 ?b4 ?_))
    case b0 => rfl
    case b1 => rfl
    case b2 => rw [hz2]; omega
    case b3 => unfold maxLen; omega
    case b4 => exact Nat.le_refl _
    intro w2 hown hgrow
    have hb2 : Below w1.heap.size w1 w2 := (Below.refl _ _).grown hgrow (Nat.le_refl _) (by intro k hk; cases hk)
    have ho2 : OwT w1.heap.size w2 (some ⟨w1.heap.size, 0, none⟩) q q (slK ws q 0) := ⟨slK_length _ _ _, by rw [slK_zero, ← made_slots]; exact hown, fun s hs => by rw [slK_zero] at hs; rw [List.eq_of_mem_replicate hs]; exact rgs_z⟩
    obtain ⟨g1, hg1⟩ : ∃ g1, a1 = some ⟨g1, 0, none⟩ := by
      obtain ⟨g1, c, e⟩ := own_shape ho1.row (by omega)
      simp only [Value.slice.injEq] at e
      exact ⟨g1, e.1⟩
    subst hg1
    have hk1 := ho1.cap_le
    obtain ⟨g, hg⟩ : ∃ g, w1.heap.size = g := ⟨_, rfl⟩
    have Hw1 : Hid (w1.heap.size = g) := hid hg
    rw [hg] at ho2 hb2 ⊢
    clear hgrow hi hz0 hz1 hz2 hown hg cA cS h32'
    go_wp2
    go_loopw [34] (fun t wr => ∃ k : Nat, k ≤ q ∧ t = .int .i64 k ∧ OwT g wr (some ⟨g, 0, none⟩) q q (slK ws q k) ∧ Below g w1 wr) (fun t _ => q - (intOf t).toNat)
    case atStart => exact ⟨0, Nat.zero_le _, rfl, ho2, hb2⟩
    case round =>
      obtain ⟨k, hk, rfl, ho, hb⟩ := hrel
      clear ho2 hb2
      have Hb1 : Hid (Below w1.heap.size w1 wr) := hid (by rw [Hw1.out]; exact hb)
      by_cases hlt : k < q
      · have ho1' := ho1.below Hb1.out
        have c0 := ho1'.at (k * 4) (by omega) rfl
        have c1 := ho1'.at (k * 4 + 1) (by omega) rfl
        have c2 := ho1'.at (k * 4 + 2) (by omega) rfl
        have hf0 := fitB_and (Hfit.out (k * 4) (by omega))
        have hf1 := fitB_and (Hfit.out (k * 4 + 1) (by omega))
        have hf2 := fitB_and (Hfit.out (k * 4 + 2) (by omega))
        have HS := hid (slK_set ws q k)
        generalize ws.getD (k * 4) 0 = x0 at *
        generalize ws.getD (k * 4 + 1) 0 = x1 at *
        generalize ws.getD (k * 4 + 2) 0 = x2 at *
        have cS := slot_any g1 (k * 4) (q * 4 - k * 4) (k1 - k * 4) x0 x1 x2 wr c0 c1 c2 (by omega) hf0.1 hf0.2
        have hrg : RgS (slW x0 x1 x2) := ⟨⟨by simp only [slW]; omega, by simp only [slW]; omega⟩, ⟨by simp only [slW]; omega, by simp only [slW]; omega⟩, ⟨by simp only [slW]; omega, by simp only [slW]; omega⟩⟩
        have hki : (k : Int) < (q : Int) := by omega
        have e0 : ((k : Int) * 4).toNat = k * 4 := by omega
        have e1 : ¬ (k1 = k * 4) := by omega
        have e2 : k * 4 ≤ q * 4 := by omega
        generalize slW x0 x1 x2 = s at *
        have Hset : Hid (∀ w4, Below wr.heap.size wr w4 → OwT g (((((w4.setCell ⟨g, k * 5, none⟩ (.int .i64 s.gen)).setCell ⟨g, k * 5 + 1, none⟩ (.bool s.live)).setCell ⟨g, k * 5 + 2, none⟩ (.bool s.two)).setCell ⟨g, k * 5 + 3, none⟩ (.int .i64 s.pos)).setCell ⟨g, k * 5 + 4, none⟩ (.int .i64 s.len)) (some ⟨g, 0, none⟩) q q (slK ws q (k + 1))) := fun w4 hb4 => by
          have := (ho.below hb4).set hlt hrg
          rwa [HS.out] at this
        have Hcell : Hid (∀ w4, Below wr.heap.size wr w4 → S5 w4 g (k * 5) (sg (slK ws q k) k) ∧ ∀ j, w4.frozen? ⟨g, j, none⟩ = false) := fun w4 hb4 => by
          have := (ho.below hb4).tb.at (Below.refl _ _) hlt
          rw [Nat.zero_add] at this
          exact ⟨this, (ho.below hb4).free⟩
        clear ho1' c0 c1 c2 hf0 hf1 hf2 HS hrg ho
        obtain ⟨gn, lv, tw, p, ln⟩ := s
        simp only at cS Hset
        generalize sg (slK ws q k) k = s0 at *
        go_wp2_with (first
          | (go_at_call 44; with_reducible refine cS.mono ?_; rintro e w4 ⟨rfl, hb4⟩; obtain ⟨⟨d0, d1, d2, d3, d4⟩, fr⟩ := Hcell.out w4 hb4; have f0 := fr (k * 5); have f1 := fr (k * 5 + 1); have f2 := fr (k * 5 + 2); have f3 := fr (k * 5 + 3); have f4 := fr (k * 5 + 4)))
        go_roundw
        case rel => exact ⟨k + 1, by omega, by go_num, Hset.out w4 hb4, (((((hb.trans (hb4.mono (by have := hb.size; rw [← Hw1.out]; exact this))).setCell (by simp) _).setCell (by simp) _).setCell (by simp) _).setCell (by simp) _).setCell (by simp) _⟩
        case measure => simp [intOf]; omega
      · obtain rfl : k = q := by omega
        rw [slK_full] at ho
        have HL : Hid (rdT zs = slT ws k) := HRd
        have cB := tbytes_tb _ k k (slT ws k) wr ho.tb (by omega)
        have b0 := next hb1 Hb1.out
        have hB0 : w.heap.size ≤ g := by rw [← Hw1.out]; exact hb1.size
        have Hhb := hid h
        by_cases hr : RightT (slT ws k)
        · rw [(bt_t hr).1, (bt_t hr).2] at cB
          by_cases he : ofL (rowT (slT ws k)) = zs
          · have hok : RdOk zs := by unfold RdOk; rw [HL.out]; exact ⟨hr, he⟩
            have HD : Hid (rdB zs = true ∧ rdL zs = slT ws k) := hid ⟨(rd_t hok).1, by rw [(rd_t hok).2, HL.out]⟩
            rw [he] at cB
            clear hr he hok HL h HRd
            generalize slT ws k = L at *
            go_wp2_with (first
              | (go_at_call 28; with_reducible refine cB.mono ?_; rintro e w5 ⟨a5, m5, k5, rfl, ho5, hb5⟩)
              | (go_at_call 45; with_reducible refine (equal_any _ _ _ zs _ _ _ zs w5 ho5.sl (Hhb.out.below (next b0 hb5)) hby hby).mono ?_; rintro e w6 ⟨rfl, rfl⟩; rw [eqB_t rfl]))
            go_ret2
            exact ⟨some ⟨g, 0, none⟩, k, k, by rw [HD.out.1]; rfl, by rw [HD.out.2]; exact (ho.below hb5).mono hB0, next b0 hb5⟩
          · have hok : ¬ RdOk zs := fun e => he (by have := e.2; rwa [HL.out] at this)
            have HD := hid (rd_f hok)
            have heB : eqB (ofL (rowT (slT ws k))) zs = false := eqB_f he
            have hbyL := ofL_bytes (rowT (slT ws k))
            clear hr he hok HL h HRd
            generalize slT ws k = L at *
            generalize ofL (rowT L) = xs at *
            go_wp2_with (first
              | (go_at_call 28; with_reducible refine cB.mono ?_; rintro e w5 ⟨a5, m5, k5, rfl, ho5, hb5⟩)
              | (go_at_call 45; with_reducible refine (equal_any _ _ _ xs _ _ _ zs w5 ho5.sl (Hhb.out.below (next b0 hb5)) hbyL hby).mono ?_; rintro e w6 ⟨rfl, rfl⟩; rw [heB]))
            go_ret2
            exact ⟨none, 0, 0, by rw [HD.out.1]; rfl, by rw [HD.out.2]; exact owT_nil _ _, next b0 hb5⟩
        · have hok : ¬ RdOk zs := fun e => hr (by have := e.1; rwa [HL.out] at this)
          have HD := hid (rd_f hok)
          rw [(bt_f hr).1, (bt_f hr).2] at cB
          clear hr hok HL h HRd
          generalize slT ws k = L at *
          go_wp2_with (first
            | (go_at_call 28; with_reducible refine cB.mono ?_; rintro e w5 ⟨a5, m5, k5, rfl, ho5, hb5⟩))
          go_ret2
          exact ⟨none, 0, 0, by rw [HD.out.1]; rfl, by rw [HD.out.2]; exact owT_nil _ _, next b0 hb5⟩
/-- table.Read. -/
theorem tread_any (ao : Option Addr) (n cap : Nat) (zs : List Int) (w : World) (h : Sl .u8 w ao n cap zs) (hby : Bytes zs) (hn : n ≤ 140737488355328) :
    Calls Try.prog 29 #[.slice ao n cap] w fun e w' => ∃ bo m c, e = .returned (.tuple #[.slice bo m c, .bool (rdB zs)]) ∧ OwT w.heap.size w' bo m c (rdL zs) ∧ Below w.heap.size w w' := by
  have hl := h.len
  by_cases hs : n % 32 = 0 ∧ SizT ((n / 32 : Nat) : Int)
  · have := hs.2.1
    obtain ⟨b, off, rfl, _, _⟩ := h.here (by omega)
    exact tread_words b off n cap zs w h hby (n / 32) (by omega) hs.2
  · refine (tread_size ao n cap zs w h hn hs).mono ?_
    rintro e w' ⟨rfl, hb⟩
    have hok : ¬ RdOk zs := fun e => hs (by have := e.size; rw [hl] at this; exact ⟨this.1, this.2.1⟩)
    rw [(rd_f hok).1, (rd_f hok).2]
    exact ⟨none, 0, 0, rfl, owT_nil _ _, hb⟩
end Go.Proofs.Ytijfiaggneeibaa
