/- 'SlabCells' walked: each cell's data stand where Cell tells, all else is 0. -/
import Derived.Test.YtfnnelkipdajiaaDoorMsB
import Derived.Test.YtfnnelkipdajiaaDoorSlP
import Derived.Test.YtfnnelkipdajiaaDoorZero
import Derived.BigQuiet
namespace Go.Proofs.YtfnnelkipdajiaaDoor
set_option maxRecDepth 100000
open Go.RowKit
set_option linter.unusedVariables false
set_option linter.unusedSimpArgs false
set_option maxRecDepth 100000

/-- What is left behind the head when the data of k cells are wiped out. -/
def zrK (B : List Int) (c : Int) (l : List Int) (ds : List (List Int)) : Nat → List Int
  | 0 => B.drop 32
  | k + 1 => splice (zrK B c l ds k) (cB c (cA l k) - 32) (List.replicate (da ds k).length 0)
theorem zrK_len {c : Int} {l : List Int} {ds : List (List Int)} {nx pv : Int} (h : SlbOk c l ds nx pv) {B : List Int} (hB : B.length = 256) : ∀ {k : Nat}, k ≤ l.length → (zrK B c l ds k).length = 224 := by
  intro k
  induction k with
  | zero => intro _; show (B.drop 32).length = 224; rw [List.length_drop]; omega
  | succ k ih =>
    intro hk
    have := ih (by omega)
    have hf := h.fit (i := k) (by omega)
    show (splice _ _ _).length = 224
    rw [length_splice _ _ _ (by rw [List.length_replicate]; omega)]
    exact this
theorem rep_at (n p : Nat) : (List.replicate n (0 : Int)).getD p 0 = 0 := by
  simp only [List.getD, List.getElem?_replicate]
  split <;> rfl
theorem zrK_at {c : Int} {l : List Int} {ds : List (List Int)} {nx pv : Int} (h : SlbOk c l ds nx pv) {B : List Int} (hB : B.length = 256) : ∀ {k : Nat}, k ≤ l.length → ∀ p,
    (zrK B c l ds k).getD p 0 = 0 ∨ ((zrK B c l ds k).getD p 0 = B.getD (p + 32) 0 ∧ ∀ i, i < k → ¬ (cB c (cA l i) ≤ p + 32 ∧ p + 32 < cB c (cA l i) + (da ds i).length)) := by
  intro k
  induction k with
  | zero => intro _ p; right; exact ⟨by show (B.drop 32).getD p 0 = _; simp only [List.getD]; rw [List.getElem?_drop, Nat.add_comm], fun i hi => by omega⟩
  | succ k ih =>
    intro hk p
    have hf := h.fit (i := k) (by omega)
    have hlen := zrK_len h hB (k := k) (by omega)
    have hs := splice_at (L := zrK B c l ds k) (cs := List.replicate (da ds k).length 0) (i := cB c (cA l k) - 32) (by rw [List.length_replicate]; omega) p
    have e : zrK B c l ds (k + 1) = splice (zrK B c l ds k) (cB c (cA l k) - 32) (List.replicate (da ds k).length 0) := rfl
    rw [e, hs, List.length_replicate]
    by_cases c0 : cB c (cA l k) - 32 ≤ p ∧ p < cB c (cA l k) - 32 + (da ds k).length
    · rw [if_pos c0]; left; exact rep_at _ _
    · rw [if_neg c0]
      rcases ih (by omega) p with h1 | ⟨h1, h2⟩
      · left; exact h1
      · right
        refine ⟨h1, fun i hi => ?_⟩
        by_cases e : i = k
        · subst e; omega
        · exact h2 i (by omega)
theorem zrK_all {c : Int} {l : List Int} {ds : List (List Int)} {nx pv : Int} (h : SlbOk c l ds nx pv) : allZ (zrK (swK c l ds nx pv l.length) c l ds l.length) = true := by
  have hB := swK_len h (k := l.length) (Nat.le_refl _)
  have hlen := zrK_len h hB (k := l.length) (Nat.le_refl _)
  have key : ∀ p, (zrK (swK c l ds nx pv l.length) c l ds l.length).getD p 0 = 0 := fun p => by
    rcases zrK_at h hB (k := l.length) (Nat.le_refl _) p with h1 | ⟨h1, h2⟩
    · exact h1
    · rw [h1]
      obtain ⟨a1, a2⟩ := swK_at h (k := l.length) (Nat.le_refl _) (p + 32)
      by_cases c0 : ∃ i, i < l.length ∧ cB c (cA l i) ≤ p + 32 ∧ p + 32 < cB c (cA l i) + wB8 c
      · obtain ⟨i, hi, q1, q2⟩ := c0
        rw [a1 i hi q1 q2]
        have := h2 i hi
        simp only [List.getD]
        rw [List.getElem?_eq_none (by omega)]
        rfl
      · rw [a2 (fun i hi q => c0 ⟨i, hi, q⟩), swZ_zero (by omega)]
  unfold allZ
  rw [List.all_eq_true]
  intro z hz
  obtain ⟨i, hi, rfl⟩ := List.getElem_of_mem hz
  have := key i
  simp only [List.getD, List.getElem?_eq_getElem hi, Option.getD_some] at this
  simp [this]
theorem cell_text {c : Int} {l : List Int} {ds : List (List Int)} {nx pv : Int} (h : SlbOk c l ds nx pv) {i : Nat} (hi : i < l.length) : ((swK c l ds nx pv l.length).drop (cB c (cA l i))).take (da ds i).length = da ds i := by
  have h1 := swK_cell h hi
  have h2 := (h.fit hi).2.2
  have h3 : (((swK c l ds nx pv l.length).drop (cB c (cA l i))).take (wB8 c)).take (da ds i).length = (pdD c (da ds i)).take (da ds i).length := by rw [h1]
  rw [List.take_take, Nat.min_eq_left h2] at h3
  rw [h3]
  unfold pdD
  simp
set_option maxHeartbeats 4000000 in
theorem slabCells_walk (w : World) (T : Cws w) (c : Int) (hcw : (Lit.int .i64 c).wf = true) (ao : Option Addr) (n cap : Nat) (l : List Int) (h : Sl .i64 w ao n cap l) (hlw : ∀ z ∈ l, (Lit.int .i64 z).wf = true) (hc : cap * 8 ≤ 140737488351232) (bo : Option Addr) (m cap' : Nat) (A : Nat → Option Addr) (N C : Nat → Nat) (ds : List (List Int)) (hd : Rd w bo m cap' A N C ds) (hc' : cap' ≤ 9223372036854775807) (nx : Int) (hnx : (Lit.int .i64 nx).wf = true) (pv : Int) (hpv : (Lit.int .i64 pv).wf = true) :
    Calls Tryd.prog 6 #[.int .i64 c, .slice ao n cap, .slice bo m cap', .int .i64 nx, .int .i64 pv] w fun e w' => e = .returned (.bool true) ∧ Below w.heap.size w w' := by
  have hl := h.len
  have hdl := hd.len
  have hm : m ≤ 9223372036854775807 := by have := hd.room; omega
  have cM := smallS_any w T
  clear hcw hlw hnx hpv
  by_cases hF : FewS ds
  · have cF : ∀ w1, Below w.heap.size w w1 → Calls Tryd.prog 9 #[.slice bo m cap'] w1 fun e w' => e = .returned (.bool true) ∧ w1 = w' := fun w1 hb => (by have := fewS_rd bo m cap' A N C ds w1 (hd.below hb) hm; rwa [decide_eq_true hF] at this)
    by_cases h60 : n ≤ 60
    · have h60' : ¬ ((60 : Int) < (n : Int)) := by omega
      by_cases hR : SlbOk c l ds nx pv
      · have hmn : m = n := by have := hR.2.2.1; omega
        subst hmn
        have cW : ∀ w1, Below w.heap.size w w1 → Calls Tryd.prog 11 #[.int .i64 c, .slice ao m cap, .slice bo m cap', .int .i64 nx, .int .i64 pv] w1 fun e w' => ∃ g, e = .returned (.tuple #[.slice (some ⟨g, 0, none⟩) 256 256, .int .i64 0]) ∧ Sl .u8 w' (some ⟨g, 0, none⟩) 256 256 (swK c l ds nx pv l.length) ∧ Below w1.heap.size w1 w' := fun w1 hb =>
          (swrite_ok c ao m cap l bo m cap' A N C ds nx pv w1 (h.below hb) (hd.below hb) (by omega) hm (T.kept hb) hR).mono fun e w' ⟨g, q1, q2, q3⟩ => ⟨g, q1, q2.sl, q3⟩
        have hBL := swK_len hR (k := l.length) (Nat.le_refl _)
        have HZ0 : Hid (zrK (swK c l ds nx pv l.length) c l ds 0 = (swK c l ds nx pv l.length).drop 32) := hid rfl
        have HZS : Hid (∀ k, zrK (swK c l ds nx pv l.length) c l ds (k + 1) = splice (zrK (swK c l ds nx pv l.length) c l ds k) (cB c (cA l k) - 32) (List.replicate (da ds k).length 0)) := hid (fun k => rfl)
        have HZL : Hid (∀ k, k ≤ m → (zrK (swK c l ds nx pv l.length) c l ds k).length = 224) := hid (fun k hk => zrK_len hR hBL (by omega))
        have HZA : Hid (allZ (zrK (swK c l ds nx pv l.length) c l ds m) = true) := hid (by have := zrK_all hR; rw [hl] at this ⊢; exact this)
        have HCT : Hid (∀ i, i < m → CtOk c (cA l i) ∧ (da ds i).length ≤ wB8 c ∧ ((swK c l ds nx pv l.length).drop (cB c (cA l i))).take (da ds i).length = da ds i) := hid (fun i hi => ⟨hR.1.2.ct (by omega), (hR.fit (by omega)).2.2, cell_text hR (by omega)⟩)
        have HAP : Hid (∀ (w3 : World) g, Sl .u8 w3 (some ⟨g, 0, none⟩) 256 256 (swK c l ds nx pv l.length) → (w3.alloc (.cells #[] 5)).ownsRow w3.heap.size 5 1 (.slice (some ⟨w3.heap.size, 0, none⟩) 0 0) 0 (([] : List Int).map (Value.int .u8)) ∧ Sl .u8 (w3.alloc (.cells #[] 5)) (some ⟨g, 32, none⟩) 224 224 ((swK c l ds nx pv l.length).drop 32) ∧ w3.heap.size ≤ (w3.alloc (.cells #[] 5)).heap.size ∧
            ∀ w4, (w3.alloc (.cells #[] 5)).grownBy w4 (some w3.heap.size) → Below w3.heap.size w3 w4) := hid (fun w3 g h1 => by
          have hb0 : Below w3.heap.size w3 (w3.alloc (.cells #[] 5)) := (Below.refl _ _).alloc (Nat.le_refl _) _
          have h2 := (h1.below hb0).post (j := 32) (by omega)
          exact ⟨World.ownsRow_made w3 #[] 0 (Nat.le_refl _) (Nat.zero_le _) rfl, by simpa using h2, hb0.size, fun w4 hg => hb0.grown hg hb0.size (fun j hj => by have := Option.some.inj hj; omega)⟩)
        have e0 : ((0 : Int) != 0) = false := rfl
        have e1 : ((256 : Int) != 256) = false := rfl
        have d2 : 0 + 224 ≤ 140737488355328 := by omega
        have HH := hid h
        have HD := hid hd
        have HT := hid T
        clear hF hR h hd T hBL
        generalize swK c l ds nx pv l.length = SW at *
        go_enter Tryd.func6, Tryd.ntmps6
        go_wp2_with (first
          | (go_at_call 8; with_reducible refine cM.mono ?_; rintro e w1 ⟨rfl, hb1⟩)
          | (go_at_call 9; with_reducible refine (cF w1 hb1).mono ?_; rintro e w2 ⟨rfl, rfl⟩)
          | (go_at_call 11; with_reducible refine (cW w1 hb1).mono ?_; rintro e w3 ⟨g, rfl, k1, hb3⟩; have hb13 := next hb1 hb3; have HQ := hid (HAP.out w3 g k1); have HK := hid k1; clear cW k1)
          | (at_builtin; refine append_sl rfl (.tmp 51) (.tmp 53) rfl w3.heap.size _ 0 [] rfl HQ.out.1 (some ⟨g, 32, none⟩) 224 224 (SW.drop 32) rfl HQ.out.2.1 d2 HQ.out.2.2.1 ?_; intro ro rc w4 o4 g4 hn4; clear hn4; have HB4 := hid (HQ.out.2.2.2 w4 g4); have HO4 := hid o4; clear o4 g4))
        clear cM cF HAP HQ
        rw [List.nil_append, Nat.zero_add, ← HZ0.out] at HO4
        obtain ⟨r, rc', e⟩ := own_shape HO4.out.row (by omega)
        simp only [Value.slice.injEq] at e
        obtain ⟨rfl, _, rfl⟩ := e
        have hrw : w3.heap.size ≤ r := (HO4.out.row.lt r rfl).1
        have hrc := HO4.out.cap_le
        go_loopw [16] (fun s wr => ∃ k : Nat, k ≤ m ∧ s = .int .i64 k ∧ Hid (Own .u8 5 w3.heap.size wr (some ⟨r, 0, none⟩) 224 rc (zrK SW c l ds k)) ∧ Below w3.heap.size w3 wr) (fun s _ => m - (intOf s).toNat)
        case atStart => exact ⟨0, Nat.zero_le _, rfl, HO4, HB4.out⟩
        case round =>
          obtain ⟨k, hk, rfl, HO, hb⟩ := hrel
          clear HO4 HB4
          have hbw := next hb13 hb
          by_cases hlt : k < m
          · have hki : (k : Int) < (m : Int) := by omega
            obtain ⟨b1, o1, rfl, -, -⟩ := HH.out.here (by omega)
            obtain ⟨b2, o2, rfl, -, -⟩ := HD.out.here (by omega)
            have c0 := HH.out.cat hbw hlt
            have HCE : Hid (∀ w1, Below w3.heap.size w3 w1 → w1.cell? ⟨b2, o2 + k, none⟩ = some (.slice (A k) (N k) (C k))) := hid (fun w1 h1 => HD.out.cell (next hb13 h1) (i := k) hlt)
            have c1 := HCE.out wr hb
            have hrow := HD.out.row k hlt
            have hrl := hrow.len
            obtain ⟨hct, hfi, htx⟩ := HCT.out k hlt
            obtain ⟨i1, i2, i3, i4, i5, i6⟩ := cB_in hct
            have cC := cell_any c (cA l k) wr (HT.out.kept hbw)
            rw [(ct_t hct).2] at cC
            have HZK := hid (HZS.out k)
            have HLK := HZL.out k hk
            have t2 : ∀ q, (convert 26 9 (.slice (A k) (N k) (C k))).run Tryd.prog (wr.drewN q) = .ok (.string (strOfNums (da ds k))) (wr.drewN q) := fun q => (hrow.below (below_drewN hbw q)).text Tryd.underlying26 Tryd.underlying5 Tryd.underlying9
            have t1 : ∀ q, (convert 26 9 (.slice (some ⟨g, cB c (cA l k), none⟩) (N k) (256 - cB c (cA l k)))).run Tryd.prog (wr.drewN q) = .ok (.string (strOfNums (da ds k))) (wr.drewN q) := fun q => by
              have h1 := (HK.out.below (below_drewN hb q)).sliced (cB c (cA l k)) (cB c (cA l k) + N k) (by omega) (by omega)
              rw [if_neg (by omega), show cB c (cA l k) + N k - cB c (cA l k) = N k by omega, ← hrl, htx, hrl] at h1
              have h2 := h1.text (P := Tryd.prog) Tryd.underlying26 Tryd.underlying5 Tryd.underlying9
              simpa [Addr.add_lit] using h2
            obtain ⟨AT, hAT⟩ : ∃ AT, ctN c (cA l k) = AT := ⟨_, rfl⟩
            rw [hAT] at cC i5
            generalize cB c (cA l k) = PB at *
            generalize cA l k = x at *
            obtain ⟨PE, hPE⟩ : ∃ PE, PB + N k = PE := ⟨_, rfl⟩
            have HPE : Hid (PE - PB = N k) := hid (by omega)
            obtain ⟨PI, hPI⟩ : ∃ PI, PB - 32 = PI := ⟨_, rfl⟩
            rw [hPI] at HZK
            have y1 : IntKind.i64.wrap (8 * AT) = (PB : Int) := by rw [← i5]; exact IntWalk.i64_in _ ⟨by omega, by omega⟩
            have y2 : IntKind.i64.wrap ((PB : Int) + (N k : Int)) = (PE : Int) := by rw [IntWalk.i64_in _ ⟨by omega, by omega⟩]; omega
            have y3 : IntKind.i64.wrap ((PB : Int) - 32) = (PI : Int) := by rw [IntWalk.i64_in _ ⟨by omega, by omega⟩]; omega
            have a1 : decide (AT < 4) = false := decide_eq_false (by omega)
            have a1' : ¬ (AT < 4) := by omega
            have a2 : decide ((256 : Int) < (PE : Int)) = false := decide_eq_false (by omega)
            have a2' : ¬ ((256 : Int) < (PE : Int)) := by omega
            have a3 : (PB : Int) ≤ (PE : Int) := by omega
            have a4 : (PE : Int) ≤ 256 := by omega
            have a5 : PB ≤ PE := by omega
            have a6 : PE ≤ 256 := by omega
            have a7 : ¬ (256 = PB) := by omega
            have hfp : PI + N k ≤ 224 := by omega
            have Hrl := hid hrl
            rw [hrl] at HZK
            have hkk : (N k : Int) ≤ 120 := by omega
            clear hrow hct hfi htx hrl hAT i5 i6 HZS HZL HZA HCT HK hPI hPE i1 i2 i3 i4 HT
            rw [← HPE.out] at t1
            generalize strOfNums (da ds k) = tx at *
            generalize zrK SW c l ds k = L at *
            generalize A k = Ak at *
            obtain ⟨Nk, hNk⟩ : ∃ Nk, N k = Nk := ⟨_, rfl⟩
            rw [hNk] at c1 HCE t2 HPE HZK y2 hfp hkk
            generalize C k = Ck at *
            have hss : (tx.toList == tx.toList) = true := by simp
            go_wp2_with (first
              | (go_at_call 22; with_reducible refine cC.mono ?_; rintro e w5 ⟨rfl, rfl⟩))
            go_quiet (fail)
            go_wp2
            clear t1 t2 c0 c1 hss a1 a1' a2 a2' a3 a4 a5 a6 a7 HPE cC
            go_loopw [19] (fun s wq => ∃ q : Nat, q ≤ Nk ∧ s = .int .i64 q ∧ Hid (Own .u8 5 w3.heap.size wq (some ⟨r, 0, none⟩) 224 rc (splice L PI ((List.replicate Nk (0 : Int)).take q))) ∧ Below w3.heap.size w3 wq) (fun s _ => Nk - (intOf s).toNat)
            case atStart => exact ⟨0, Nat.zero_le _, rfl, hid (by rw [List.take_zero, splice_zero]; exact HO.out.below (below_drewN (Below.refl _ _) _)), below_drewN hb _⟩
            case round =>
              obtain ⟨q, hq, rfl, HOq, hbq⟩ := hrel
              clear HO
              have c1 := HCE.out _ hbq
              by_cases hlq : q < Nk
              · have hqi : (q : Int) < (Nk : Int) := by omega
                have HST := hid (splice_step (L := L) (cs := List.replicate Nk (0 : Int)) (i := PI) (q := q) (by rw [List.length_replicate]; omega) (by rw [List.length_replicate]; omega))
                rw [rep_at] at HST
                obtain ⟨PQ, hPQ⟩ : ∃ PQ, PI + q = PQ := ⟨_, rfl⟩
                rw [hPQ] at HST
                have y4 : IntKind.i64.wrap ((PI : Int) + (q : Int)) = (PQ : Int) := by rw [IntWalk.i64_in _ ⟨by omega, by omega⟩]; omega
                have hPi : (PQ : Int) < 224 := by omega
                have hPn : PQ < 224 := by omega
                have c4 := HOq.out.at PQ hPn rfl
                have f4 := HOq.out.row.frozenAt PQ
                have HO6 := hid (HOq.out.set PQ 0)
                rw [HST.out] at HO6
                have HB6 : Hid (Below w3.heap.size w3 (wr.setCell ⟨r, PQ, none⟩ (.int .u8 0))) := hid (hbq.setCell (by show w3.heap.size ≤ r; omega) _)
                generalize (splice L PI ((List.replicate Nk (0 : Int)).take q)).getD PQ 0 = ov at c4
                clear HOq HST hPQ HCE HZK
                go_wp2
                go_roundw
                case rel => exact ⟨q + 1, by omega, by go_num, HO6, HB6.out⟩
                case measure => simp [intOf]; omega
              · obtain rfl : q = Nk := by omega
                have hqz : ¬ ((q : Int) < (q : Int)) := by omega
                have HO7 : Hid (Own .u8 5 w3.heap.size _ (some ⟨r, 0, none⟩) 224 rc (zrK SW c l ds (k + 1))) := hid (by have := HOq.out; rw [List.take_of_length_le (by rw [List.length_replicate]; omega)] at this; rw [HZK.out]; exact this)
                clear HOq HCE
                go_wp2
                go_roundw
                case rel => exact ⟨k + 1, by omega, by go_num, HO7, hbq⟩
                case measure => simp [intOf]; omega
          · obtain rfl : k = m := by omega
            have hkz : ¬ ((k : Int) < (k : Int)) := by omega
            have cZ := zero_any (some ⟨r, 0, none⟩) 224 rc (zrK SW c l ds k) wr HO.out.sl (by omega)
            rw [HZA.out] at cZ
            clear HO HZS HZL HZA HCT HK HT HH HD
            go_wp2_with (first
              | (go_at_call 21; with_reducible refine cZ.mono ?_; rintro e w5 ⟨rfl, rfl⟩))
            go_ret
            exact ⟨rfl, hbw⟩
      · have cW : ∀ w1, Below w.heap.size w w1 → Calls Tryd.prog 11 #[.int .i64 c, .slice ao n cap, .slice bo m cap', .int .i64 nx, .int .i64 pv] w1 fun e w' => e = .returned (.tuple #[.slice none 0 0, .int .i64 1]) ∧ w1 = w' := fun w1 hb =>
          swrite_no c ao n cap l bo m cap' A N C ds nx pv w1 (h.below hb) (hd.below hb) (by omega) hm (T.kept hb) hR
        have e0 : ((1 : Int) != 0) = true := rfl
        clear h hd hF T hR
        go_enter Tryd.func6, Tryd.ntmps6
        go_wp2_with (first
          | (go_at_call 8; with_reducible refine cM.mono ?_; rintro e w1 ⟨rfl, hb1⟩)
          | (go_at_call 9; with_reducible refine (cF w1 hb1).mono ?_; rintro e w2 ⟨rfl, rfl⟩)
          | (go_at_call 11; with_reducible refine (cW w1 hb1).mono ?_; rintro e w3 ⟨rfl, rfl⟩))
        go_ret
        exact ⟨rfl, hb1⟩
    · have h60' : (60 : Int) < (n : Int) := by omega
      clear h hd hF
      go_enter Tryd.func6, Tryd.ntmps6
      go_wp2_with (first
        | (go_at_call 8; with_reducible refine cM.mono ?_; rintro e w1 ⟨rfl, hb1⟩)
        | (go_at_call 9; with_reducible refine (cF w1 hb1).mono ?_; rintro e w2 ⟨rfl, rfl⟩))
      go_ret
      exact ⟨rfl, hb1⟩
  · have cF : ∀ w1, Below w.heap.size w w1 → Calls Tryd.prog 9 #[.slice bo m cap'] w1 fun e w' => e = .returned (.bool false) ∧ w1 = w' := fun w1 hb => (by have := fewS_rd bo m cap' A N C ds w1 (hd.below hb) hm; rwa [decide_eq_false hF] at this)
    clear h hd hF
    go_enter Tryd.func6, Tryd.ntmps6
    go_wp2_with (first
      | (go_at_call 8; with_reducible refine cM.mono ?_; rintro e w1 ⟨rfl, hb1⟩)
      | (go_at_call 9; with_reducible refine (cF w1 hb1).mono ?_; rintro e w2 ⟨rfl, rfl⟩))
    go_ret
    exact ⟨rfl, hb1⟩
end Go.Proofs.YtfnnelkipdajiaaDoor
