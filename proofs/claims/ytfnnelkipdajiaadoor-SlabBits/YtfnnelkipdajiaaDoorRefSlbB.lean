/- joistref15.Write by its contract. -/
import Derived.Test.YtfnnelkipdajiaaDoorRefSlbA
import Derived.Test.YtfnnelkipdajiaaDoorRdR
import Derived.Test.YtfnnelkipdajiaaDoorApp0
import Derived.Test.YtfnnelkipdajiaaDoorRefOf
namespace Go.Proofs.YtfnnelkipdajiaaDoor
set_option maxRecDepth 100000
open Go.RowKit
set_option linter.unusedVariables false
set_option linter.unusedSimpArgs false
set_option maxRecDepth 100000

/-- '[]int{x, y, z, u}'. -/
theorem sl_int4 (w : World) (k : Nat) (x y z u : Int) (hk : w.heap.size = k) : Sl .i64 (w.alloc (.cells #[.int .i64 x, .int .i64 y, .int .i64 z, .int .i64 u] 3)) (some ⟨k, 0, none⟩) 4 4 [x, y, z, u] := by
  subst hk
  refine ⟨rfl, Nat.le_refl _, (by intro h; cases h), fun _ => ⟨_, _, rfl, by simp, fun i hi => ?_⟩⟩
  have e := cell_of_row (w.alloc (.cells #[.int .i64 x, .int .i64 y, .int .i64 z, .int .i64 u] 3)) w.heap.size i _ 3 (0, 0) (heap_alloc_new w _)
  rcases (show i = 0 ∨ i = 1 ∨ i = 2 ∨ i = 3 by omega) with rfl | rfl | rfl | rfl
  · exact e
  · exact e
  · exact e
  · exact e
theorem swK_lenP {c : Int} {l : List Int} {ds : List (List Int)} {nx pv : Int} (h : BitOk c l) : ∀ {k : Nat}, k ≤ l.length → (∀ i, i < k → (da ds i).length ≤ wB8 c) → (swK c l ds nx pv k).length = 256 := by
  intro k
  induction k with
  | zero => intro _ _; exact swZ_len _ _ _ _
  | succ k ih =>
    intro hk hd
    have := ih (by omega) (fun i hi => hd i (by omega))
    have h1 := cB_in (h.2.ct (i := k) (by omega))
    have h2 := hd k (by omega)
    show (splice _ _ _).length = 256
    rw [length_splice _ _ _ (by omega)]
    exact this
theorem splice_zero (L : List Int) (i : Nat) : splice L i [] = L := by simp [splice]
theorem splice_step {L cs : List Int} {i q : Nat} (h : i + cs.length ≤ L.length) (hq : q < cs.length) : (splice L i (cs.take q)).set (i + q) (cs.getD q 0) = splice L i (cs.take (q + 1)) := by
  have l1 : (splice L i (cs.take q)).length = L.length := length_splice _ _ _ (by rw [List.length_take]; omega)
  have l2 : (splice L i (cs.take (q + 1))).length = L.length := length_splice _ _ _ (by rw [List.length_take]; omega)
  refine ext_by0 (by rw [List.length_set, l1, l2]) fun p hp => ?_
  rw [List.length_set, l1] at hp
  have t1 : ∀ m j, j < m → (cs.take m).getD j 0 = cs.getD j 0 := fun m j hj => by simp only [List.getD]; rw [List.getElem?_take, if_pos hj]
  rw [splice_at (by rw [List.length_take]; omega)]
  by_cases e : p = i + q
  · subst e
    rw [if_pos (by rw [List.length_take]; omega), t1 _ _ (by omega), show i + q - i = q by omega]
    simp [List.getD, l1, hp]
  · have e2 : ((splice L i (cs.take q)).set (i + q) (cs.getD q 0)).getD p 0 = (splice L i (cs.take q)).getD p 0 := by
      simp only [List.getD]
      rw [List.getElem?_set_ne (fun x => e x.symm)]
    rw [e2, splice_at (by rw [List.length_take]; omega), List.length_take, List.length_take]
    by_cases c : i ≤ p ∧ p < i + min q cs.length
    · rw [if_pos c, if_pos (by omega), t1 _ _ (by omega), t1 _ _ (by omega)]
    · rw [if_neg c, if_neg (by omega)]
/-- What comes ahead of the data: a slab but for their lengths. -/
def PreS (c : Int) (l : List Int) (m : Nat) (nx pv : Int) : Prop := BitOk c l ∧ 0 < l.length ∧ l.length = m ∧ (0 ≤ nx ∧ nx ≤ 64) ∧ (0 ≤ pv ∧ pv ≤ 64)
instance (c : Int) (l : List Int) (m : Nat) (nx pv : Int) : Decidable (PreS c l m nx pv) := by unfold PreS; exact inferInstance
theorem pre_no {c : Int} {l : List Int} {m n : Nat} {nx pv : Int} (hl : l.length = n) (h : ¬ PreS c l m nx pv) : (bzE c l != 0) = true ∨ ((bzE c l != 0) = false ∧ ((n : Int) == 0) = true) ∨ ((bzE c l != 0) = false ∧ ((n : Int) == 0) = false ∧ ((n : Int) != (m : Int)) = true) ∨ ((bzE c l != 0) = false ∧ ((n : Int) == 0) = false ∧ ((n : Int) != (m : Int)) = false ∧ nx < 0) ∨ ((bzE c l != 0) = false ∧ ((n : Int) == 0) = false ∧ ((n : Int) != (m : Int)) = false ∧ ¬ nx < 0 ∧ 64 < nx) ∨ ((bzE c l != 0) = false ∧ ((n : Int) == 0) = false ∧ ((n : Int) != (m : Int)) = false ∧ ¬ nx < 0 ∧ ¬ 64 < nx ∧ pv < 0) ∨ ((bzE c l != 0) = false ∧ ((n : Int) == 0) = false ∧ ((n : Int) != (m : Int)) = false ∧ ¬ nx < 0 ∧ ¬ 64 < nx ∧ ¬ pv < 0 ∧ 64 < pv) := by
  unfold PreS at h
  by_cases c0 : BitOk c l
  · have d0 : (bzE c l != 0) = false := by rw [(bz_t c0).2]; rfl
    by_cases c1 : n = 0
    · exact .inr (.inl ⟨d0, by simpa using c1⟩)
    · have d1 : ((n : Int) == 0) = false := by simpa using c1
      by_cases c2 : n = m
      · have d2 : ((n : Int) != (m : Int)) = false := by simp; omega
        by_cases c3 : nx < 0
        · exact .inr (.inr (.inr (.inl ⟨d0, d1, d2, c3⟩)))
        · by_cases c4 : 64 < nx
          · exact .inr (.inr (.inr (.inr (.inl ⟨d0, d1, d2, c3, c4⟩))))
          · by_cases c5 : pv < 0
            · exact .inr (.inr (.inr (.inr (.inr (.inl ⟨d0, d1, d2, c3, c4, c5⟩)))))
            · by_cases c6 : 64 < pv
              · exact .inr (.inr (.inr (.inr (.inr (.inr ⟨d0, d1, d2, c3, c4, c5, c6⟩)))))
              · exact (h ⟨c0, by omega, by omega, by omega, by omega⟩).elim
      · exact .inr (.inr (.inl ⟨d0, d1, by simp; omega⟩))
  · exact .inl (by rw [(bz_f c0).2]; rfl)
theorem SlbOk.pre {c : Int} {l : List Int} {ds : List (List Int)} {nx pv : Int} (h : SlbOk c l ds nx pv) : PreS c l ds.length nx pv := ⟨h.1, h.2.1, h.2.2.1, h.2.2.2.1, h.2.2.2.2.1⟩
set_option maxHeartbeats 2000000 in
theorem rwriteS_no (c : Int) (ao : Option Addr) (n cap : Nat) (l : List Int) (bo : Option Addr) (m cap' : Nat) (nx pv : Int) (w : World) (h : Sl .i64 w ao n cap l) (hn : n ≤ 9223372036854775807) (hm : m ≤ 9223372036854775807) (hno : ¬ PreS c l m nx pv) :
    Calls Tryd.prog 12 #[.int .i64 c, .slice ao n cap, .slice bo m cap', .int .i64 nx, .int .i64 pv] w fun e w' => e = .returned (.tuple #[.slice none 0 0, .int .i64 1]) ∧ Below w.heap.size w w' := by
  have hl := h.len
  have cBi := rbits_sl c ao n cap l w h hn
  have cW : ∀ w1, _ := fun w1 => rwords_any c w1
  have hc := pre_no hl hno
  generalize bzN c l = X at *
  generalize bzE c l = E at *
  clear h hno
  rcases hc with a0 | ⟨a0, a1⟩ | ⟨a0, a1, a2⟩ | ⟨a0, a1, a2, a3⟩ | ⟨a0, a1, a2, a3, a4⟩ | ⟨a0, a1, a2, a3, a4, a5⟩ | ⟨a0, a1, a2, a3, a4, a5, a6⟩
  · go_enter Tryd.func12, Tryd.ntmps12
    go_wp2_with (first
      | (go_at_call 16; with_reducible refine cBi.mono ?_; rintro e w1 ⟨rfl, hb1⟩)
      | (go_at_call 28; with_reducible refine (cW _).mono ?_; rintro e w2 ⟨rfl, hb2⟩; have hb3 := next hb1 hb2))
    go_ret2
    exact ⟨rfl, hb3⟩
  · go_enter Tryd.func12, Tryd.ntmps12
    go_wp2_with (first
      | (go_at_call 16; with_reducible refine cBi.mono ?_; rintro e w1 ⟨rfl, hb1⟩)
      | (go_at_call 28; with_reducible refine (cW _).mono ?_; rintro e w2 ⟨rfl, hb2⟩; have hb3 := next hb1 hb2))
    go_ret2
    exact ⟨rfl, hb3⟩
  · go_enter Tryd.func12, Tryd.ntmps12
    go_wp2_with (first
      | (go_at_call 16; with_reducible refine cBi.mono ?_; rintro e w1 ⟨rfl, hb1⟩)
      | (go_at_call 28; with_reducible refine (cW _).mono ?_; rintro e w2 ⟨rfl, hb2⟩; have hb3 := next hb1 hb2))
    go_ret2
    exact ⟨rfl, hb3⟩
  · go_enter Tryd.func12, Tryd.ntmps12
    go_wp2_with (first
      | (go_at_call 16; with_reducible refine cBi.mono ?_; rintro e w1 ⟨rfl, hb1⟩)
      | (go_at_call 28; with_reducible refine (cW _).mono ?_; rintro e w2 ⟨rfl, hb2⟩; have hb3 := next hb1 hb2))
    go_ret2
    exact ⟨rfl, hb3⟩
  · go_enter Tryd.func12, Tryd.ntmps12
    go_wp2_with (first
      | (go_at_call 16; with_reducible refine cBi.mono ?_; rintro e w1 ⟨rfl, hb1⟩)
      | (go_at_call 28; with_reducible refine (cW _).mono ?_; rintro e w2 ⟨rfl, hb2⟩; have hb3 := next hb1 hb2))
    go_ret2
    exact ⟨rfl, hb3⟩
  · go_enter Tryd.func12, Tryd.ntmps12
    go_wp2_with (first
      | (go_at_call 16; with_reducible refine cBi.mono ?_; rintro e w1 ⟨rfl, hb1⟩)
      | (go_at_call 28; with_reducible refine (cW _).mono ?_; rintro e w2 ⟨rfl, hb2⟩; have hb3 := next hb1 hb2))
    go_ret2
    exact ⟨rfl, hb3⟩
  · go_enter Tryd.func12, Tryd.ntmps12
    go_wp2_with (first
      | (go_at_call 16; with_reducible refine cBi.mono ?_; rintro e w1 ⟨rfl, hb1⟩)
      | (go_at_call 28; with_reducible refine (cW _).mono ?_; rintro e w2 ⟨rfl, hb2⟩; have hb3 := next hb1 hb2))
    go_ret2
    exact ⟨rfl, hb3⟩
set_option maxHeartbeats 4000000 in
theorem rwriteS_pre (c : Int) (ao : Option Addr) (n cap : Nat) (l : List Int) (bo : Option Addr) (m cap' : Nat) (A : Nat → Option Addr) (N C : Nat → Nat) (ds : List (List Int)) (nx pv : Int) (w : World) (h : Sl .i64 w ao n cap l) (hd : Rd w bo m cap' A N C ds) (hp : PreS c l m nx pv) :
    Calls Tryd.prog 12 #[.int .i64 c, .slice ao n cap, .slice bo m cap', .int .i64 nx, .int .i64 pv] w fun e w' => ∃ xo xm xc, e = .returned (.tuple #[.slice xo xm xc, .int .i64 (swE c l ds nx pv)]) ∧ Own .u8 5 w.heap.size w' xo xm xc (swL c l ds nx pv) ∧ Below w.heap.size w w' := by
  have hl := h.len
  have hdl := hd.len
  obtain ⟨hB, hl0, hlm, hnx, hpv⟩ := hp
  have hlen14 := hB.len
  obtain ⟨hb0, hb1', _⟩ := hB.low
  have cBi := rbits_sl c ao n cap l w h (by omega)
  rw [(bz_t hB).1, (bz_t hB).2] at cBi
  have cW : ∀ w1, _ := fun w1 => rwords_any c w1
  rw [wdE_in hB.1] at cW
  obtain ⟨hw1, hw2, _⟩ := cls_in hB.1
  have HWB : Hid ((wB8 c : Int) = 8 * wdN c) := hid (by unfold wB8; omega)
  have HSW : Hid ((∀ i, i < n → (da ds i).length ≤ wB8 c) → swE c l ds nx pv = 0 ∧ swL c l ds nx pv = swK c l ds nx pv n) := hid (fun e => by rw [← hl]; exact sw_t ⟨hB, hl0, by omega, hnx, hpv, fun i hi => e i (by omega)⟩)
  have HSF : Hid (∀ i, i < n → ¬ (da ds i).length ≤ wB8 c → swE c l ds nx pv = 1 ∧ swL c l ds nx pv = []) := hid (fun i hi e => sw_f (fun q => e (q.2.2.2.2.2 i (by omega))))
  have HLP : Hid (∀ k, k ≤ n → (∀ i, i < k → (da ds i).length ≤ wB8 c) → (swK c l ds nx pv k).length = 256) := hid (fun k hk e => swK_lenP hB (by omega) e)
  have HOK : Hid (okL [c + 1, btS l, nx, pv] = true) := hid (by
    have hc := hB.1
    simp only [okL, List.all_cons, List.all_nil, Bool.and_true, Bool.and_eq_true]
    exact ⟨fitB_t (by omega) (by omega), fitB_t (by omega) (by omega), fitB_t (by omega) (by omega), fitB_t (by omega) (by omega)⟩)
  have HCT : Hid (∀ i, i < n → CtOk c (cA l i)) := hid (fun i hi => hB.2.ct (by omega))
  have a1 : ((n : Int) == 0) = false := by simp; omega
  have a2 : ((n : Int) != (m : Int)) = false := by simp; omega
  have a3 : ¬ nx < 0 := by omega
  have a4 : ¬ 64 < nx := by omega
  have a5 : ¬ pv < 0 := by omega
  have a6 : ¬ 64 < pv := by omega
  have HSZ : Hid (swK c l ds nx pv 0 = ofL [c + 1, btS l, nx, pv] ++ List.replicate 224 0) := hid rfl
  have HSN : Hid (∀ k, swK c l ds nx pv (k + 1) = splice (swK c l ds nx pv k) (cB c (cA l k)) (da ds k)) := hid (fun k => rfl)
  generalize wdN c = W at *
  generalize btS l = BT at *
  have HH := hid h
  have HD := hid hd
  obtain ⟨C1, hC1⟩ : ∃ C1, c + 1 = C1 := ⟨_, rfl⟩
  have x1 : IntKind.i64.wrap (c + 1) = C1 := by have := hB.1; rw [← hC1]; exact IntWalk.i64_in _ ⟨by omega, by omega⟩
  rw [hC1] at HOK HSZ
  clear h hd hB hC1 hb0 hb1'
  have cO : ∀ w1, Below w.heap.size w w1 → Calls Tryd.prog 29 #[.slice (some ⟨w1.heap.size, 0, none⟩) 4 4] (w1.alloc (.cells #[.int .i64 C1, .int .i64 BT, .int .i64 nx, .int .i64 pv] 3)) fun e w' => ∃ ho hc, e = .returned (.tuple #[.slice ho 32 hc, .int .i64 0]) ∧ Own .u8 5 w.heap.size w' ho 32 hc (ofL [C1, BT, nx, pv]) ∧ Below w.heap.size w w' := fun w1 hb1 => by
    refine (refof_any _ 4 4 [C1, BT, nx, pv] _ (sl_int4 w1 w1.heap.size C1 BT nx pv rfl) (by omega)).mono ?_
    rintro e w' ⟨ho, hm2, hc2, rfl, hO, hb⟩
    rw [ofR_t HOK.out] at hO
    rw [ofE_t HOK.out]
    have hl32 : hm2 = 32 := by have := hO.len; rw [ofL_length] at this; simpa using this.symm
    subst hl32
    have h2 := hb1.alloc hb1.size (.cells #[.int .i64 C1, .int .i64 BT, .int .i64 nx, .int .i64 pv] 3)
    exact ⟨ho, hc2, rfl, hO.mono h2.size, next h2 hb⟩
  go_enter Tryd.func12, Tryd.ntmps12
  go_wp2_with (first
    | (go_at_call 16; with_reducible refine cBi.mono ?_; rintro e w1 ⟨rfl, hb1⟩)
    | (go_at_call 28; with_reducible refine (cW _).mono ?_; rintro e w2 ⟨rfl, hb2⟩; have hb3 := next hb1 hb2; have cO2 := cO w2 hb3)
    | (go_at_call 29; with_reducible refine cO2.mono ?_; rintro e w3 ⟨ho, hc3, rfl, hO3, hb4⟩; have HO3 := hid hO3; have hs4 := hb4.size; have HB4 := hid hb4; clear hO3 hb4)
    | (at_builtin; refine append_zs rfl (.tmp 74) _ rfl w.heap.size 32 hc3 224 ho _ 224 rfl rfl rfl HO3.out (by omega) (by omega) hs4 ?_; intro xo xc w4 hO4 hg4; have HO4 := hid hO4; have HB5 := hid (HB4.out.grown hg4 hs4 (fun j hj => (HO3.out.row.lt j hj).1)); clear hO4 hg4))
  rw [← HSZ.out] at HO4
  clear cO cO2 cBi HO3 HB4
  obtain ⟨g, xc', e⟩ := own_shape HO4.out.row (by omega)
  simp only [Value.slice.injEq] at e
  obtain ⟨rfl, _, rfl⟩ := e
  go_loopw [19] (fun s19 wr => ∃ k : Nat, k ≤ n ∧ s19 = .int .i64 k ∧ Hid (∀ i, i < k → (da ds i).length ≤ wB8 c) ∧ Hid (Own .u8 5 w.heap.size wr (some ⟨g, 0, none⟩) 256 xc (swK c l ds nx pv k)) ∧ Below w.heap.size w wr) (fun s19 _ => n - (intOf s19).toNat)
  case atStart => exact ⟨0, Nat.zero_le _, rfl, hid (fun i hi => by omega), HO4, HB5.out⟩
  case round =>
    obtain ⟨k, hk, rfl, HF, HO, hb⟩ := hrel
    clear HO4 HB5 hs4
    by_cases hlt : k < n
    · have hki : (k : Int) < (n : Int) := by omega
      have hkm : (k : Int) < (m : Int) := by omega
      obtain ⟨b1, o1, rfl, _, _⟩ := HH.out.here (by omega)
      obtain ⟨b2, o2, rfl, _, _⟩ := HD.out.here (by omega)
      have c0 := HH.out.cat hb hlt
      have c1 := HD.out.cell hb (i := k) (by omega)
      have hrow := (HD.out.row k (by omega)).below hb
      have hrl := hrow.len
      obtain ⟨i1, i2, i3, i4, i5, i6⟩ := cB_in (HCT.out k hlt)
      have cC : ∀ w1, _ := fun w1 => rcell_any c (cA l k) w1
      rw [(ct_t (HCT.out k hlt)).2] at cC
      have HSK := hid (HSN.out k)
      have HLK := hid (HLP.out k (by omega) HF.out)
      generalize cA l k = x at *
      obtain ⟨AT, hAT⟩ : ∃ AT, ctN c x = AT := ⟨_, rfl⟩
      rw [hAT] at cC i5
      have HBO : Hid (∀ w1, Below w.heap.size w w1 → w1.cell? ⟨b2, o2 + k, none⟩ = some (.slice (A k) (N k) (C k))) := hid (fun w1 h1 => HD.out.cell h1 (i := k) (by omega))
      have HRW : Hid (∀ w1, Below w.heap.size w w1 → Sl .u8 w1 (A k) (N k) (C k) (da ds k)) := hid (fun w1 h1 => (HD.out.row k (by omega)).below h1)
      obtain ⟨V, hV⟩ : ∃ V : Int, 8 * W = V := ⟨_, rfl⟩
      have hVB : (wB8 c : Int) = V := by rw [← hV]; exact HWB.out
      have y1 : IntKind.i64.wrap (8 * W) = V := by rw [IntWalk.i64_in _ ⟨by omega, by omega⟩]; exact hV
      obtain ⟨PB, hPB⟩ : ∃ PB, cB c x = PB := ⟨_, rfl⟩
      rw [hPB] at i1 i2 i5 HSK
      have y2 : IntKind.i64.wrap (8 * AT) = (PB : Int) := by rw [← i5]; exact IntWalk.i64_in _ ⟨by omega, by omega⟩
      by_cases hbig : V < (N k : Int)
      · have HNO := hid (HSF.out k hlt (by omega))
        clear HSW HSF HLP HCT HSN HF HO hrow hV hAT HBO HRW i5 i6 hVB
        generalize A k = Ak at *
        generalize N k = Nk at *
        generalize C k = Ck at *
        go_wp2
        go_ret2
        exact ⟨none, 0, 0, by rw [HNO.out.1]; rfl, by rw [HNO.out.2]; exact own_nil _ _ _ _, hb⟩
      · have HFN : Hid (∀ i, i < k + 1 → (da ds i).length ≤ wB8 c) := hid (fun i hi => by
          by_cases e : i = k
          · subst e; omega
          · exact HF.out i (by omega))
        have hfit : PB + (da ds k).length ≤ (swK c l ds nx pv k).length := by rw [HLK.out]; omega
        have HFT := hid hfit
        generalize swK c l ds nx pv k = L at *
        generalize da ds k = D at *
        clear HSW HSF HLP HCT HSN HF hrow hV hAT i5 i6 hfit
        generalize A k = Ak at *
        generalize N k = Nk at *
        generalize C k = Ck at *
        go_wp2_with (first
          | (go_at_call 30; with_reducible refine (cC _).mono ?_; rintro e w5 ⟨rfl, hb5⟩; have HO5 := hid (HO.out.below hb5); have HB5 := hid (next hb hb5); clear hb5))
        go_loopw [22] (fun s22 wr => ∃ q : Nat, q ≤ Nk ∧ s22 = .int .i64 q ∧ Hid (Own .u8 5 w.heap.size wr (some ⟨g, 0, none⟩) 256 xc (splice L PB (D.take q))) ∧ Below w.heap.size w wr) (fun s22 _ => Nk - (intOf s22).toNat)
        case atStart => exact ⟨0, Nat.zero_le _, rfl, hid (by rw [List.take_zero, splice_zero]; exact HO5.out), HB5.out⟩
        case round =>
          obtain ⟨q, hq, rfl, HOq, hbq⟩ := hrel
          clear HO HO5 HB5 c0 c1
          have c1 := HBO.out wr hbq
          by_cases hlq : q < Nk
          · have hqi : (q : Int) < (Nk : Int) := by omega
            obtain ⟨b3, o3, rfl, _, hcc⟩ := (HRW.out wr hbq).here (by omega)
            have c3 := hcc q hlq
            have HST := hid (splice_step (L := L) (cs := D) (i := PB) (q := q) HFT.out (by omega))
            obtain ⟨zv, hzv⟩ : ∃ zv, D.getD q 0 = zv := ⟨_, rfl⟩
            rw [hzv] at c3 HST
            obtain ⟨PQ, hPQ⟩ : ∃ PQ, PB + q = PQ := ⟨_, rfl⟩
            rw [hPQ] at HST
            have y3 : IntKind.i64.wrap ((PB : Int) + (q : Int)) = (PQ : Int) := by rw [IntWalk.i64_in _ ⟨by omega, by omega⟩]; omega
            have hPi : (PQ : Int) < 256 := by omega
            have hPn : PQ < 256 := by omega
            have c4 := HOq.out.at PQ hPn rfl
            have f4 := HOq.out.row.frozenAt PQ
            have HO6 := hid (HOq.out.set PQ zv)
            rw [HST.out] at HO6
            have hgl : w.heap.size ≤ g := (HOq.out.row.lt g rfl).1
            have HB6 : Hid (Below w.heap.size w (wr.setCell ⟨g, PQ, none⟩ (.int .u8 zv))) := hid (hbq.setCell (by show w.heap.size ≤ g; omega) _)
            generalize (splice L PB (D.take q)).getD PQ 0 = ov at c4
            clear HOq hcc HST hzv hPQ HBO HRW
            go_wp2
            go_roundw
            case rel => exact ⟨q + 1, by omega, by go_num, HO6, HB6.out⟩
            case measure => simp [intOf]; omega
          · obtain rfl : q = Nk := by omega
            have HO7 : Hid (Own .u8 5 w.heap.size wr (some ⟨g, 0, none⟩) 256 xc (swK c l ds nx pv (k + 1))) := hid (by have := HOq.out; rw [List.take_of_length_le (by omega)] at this; rw [HSK.out]; exact this)
            clear HOq HBO HRW
            go_wp2
            go_roundw
            case rel => exact ⟨k + 1, by omega, by go_num, HFN, HO7, hbq⟩
            case measure => simp [intOf]; omega
    · obtain rfl : k = n := by omega
      have HE := hid (HSW.out HF.out)
      have hkz : ¬ ((k : Int) < (k : Int)) := by omega
      clear HSW HSF HLP HCT HSN HF
      go_wp2
      go_ret2
      exact ⟨_, 256, xc, by rw [HE.out.1]; rfl, by rw [HE.out.2]; exact HO.out, hb⟩
theorem rwriteS_rd (c : Int) (ao : Option Addr) (n cap : Nat) (l : List Int) (bo : Option Addr) (m cap' : Nat) (A : Nat → Option Addr) (N C : Nat → Nat) (ds : List (List Int)) (nx pv : Int) (w : World) (h : Sl .i64 w ao n cap l) (hd : Rd w bo m cap' A N C ds) (hn : n ≤ 9223372036854775807) (hm : m ≤ 9223372036854775807) :
    Calls Tryd.prog 12 #[.int .i64 c, .slice ao n cap, .slice bo m cap', .int .i64 nx, .int .i64 pv] w fun e w' => ∃ xo xm xc, e = .returned (.tuple #[.slice xo xm xc, .int .i64 (swE c l ds nx pv)]) ∧ Own .u8 5 w.heap.size w' xo xm xc (swL c l ds nx pv) ∧ Below w.heap.size w w' := by
  by_cases hp : PreS c l m nx pv
  · exact rwriteS_pre c ao n cap l bo m cap' A N C ds nx pv w h hd hp
  · obtain ⟨e1, e2⟩ := sw_f (c := c) (l := l) (ds := ds) (nx := nx) (pv := pv) (fun q => hp (by have := q.pre; rwa [hd.len] at this))
    rw [e1, e2]
    exact (rwriteS_no c ao n cap l bo m cap' nx pv w h hn hm hp).mono fun e w' ⟨h1, h2⟩ => ⟨none, 0, 0, h1, own_nil _ _ _ _, h2⟩
end Go.Proofs.YtfnnelkipdajiaaDoor
