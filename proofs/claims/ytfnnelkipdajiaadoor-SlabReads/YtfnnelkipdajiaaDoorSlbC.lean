/- slab.Read by its contract. -/
import Derived.Test.YtfnnelkipdajiaaDoorSlbB
import Derived.Test.YtfnnelkipdajiaaDoorRefSlbC
import Derived.Test.YtfnnelkipdajiaaDoorByR
import Derived.Test.YtfnnelkipdajiaaDoorAll
import Derived.Test.YtfnnelkipdajiaaDoorSlP
namespace Go.Proofs.YtfnnelkipdajiaaDoor
set_option maxRecDepth 100000
open Go.RowKit
set_option linter.unusedVariables false
set_option linter.unusedSimpArgs false
set_option maxRecDepth 100000

theorem head_words {zs : List Int} (hl : zs.length = 256) (hb : Bytes zs) (ha : allB (zs.take 32) = true) : allR (zs.take 32) = [getN zs 0, getN zs 1, getN zs 2, getN zs 3] := by
  obtain ⟨h1, h2⟩ := of_all (fun z hz => hb z (List.mem_of_mem_take hz)) ha
  have h4 : (allR (zs.take 32)).length = 4 := by
    have := congrArg List.length h2
    rw [ofL_length, List.length_take, hl] at this
    omega
  have g : ∀ p : Nat, p < 4 → getN zs (p : Int) = (allR (zs.take 32)).getD p 0 := fun p hp => (getN_head hl h2.symm h4 h1 hp).1
  have g0 : getN zs 0 = _ := g 0 (by omega)
  have g1 : getN zs 1 = _ := g 1 (by omega)
  have g2 : getN zs 2 = _ := g 2 (by omega)
  have g3 : getN zs 3 = _ := g 3 (by omega)
  rw [g0, g1, g2, g3]
  generalize allR (zs.take 32) = r at h4
  match r, h4 with
  | [a, b, c, d], _ => rfl
theorem rds_all {zs : List Int} (h : RdS zs) : allB (zs.take 32) = true := by
  obtain ⟨h1, h2, h3⟩ := h
  rw [(sw_t h2).2] at h3
  have h4 := swK_head h2
  rw [h3] at h4
  rw [h4]
  exact (all_of h2.words).1
theorem OwD.all {B : Nat} {w : World} {ao : Option Addr} {n cap : Nat} {A : Nat → Option Addr} {N C : Nat → Nat} {ds : List (List Int)} (h : OwD B w ao n cap A N C ds n) (hl : ds.length = n) : OwR B w ao n cap A N C ds := by
  obtain ⟨vs, h1, h2⟩ := h.row
  refine ⟨hl, ?_, h.own, h.apart⟩
  have hvl : vs.length = n := by have := h1.1; omega
  have e : (List.range n).map (sliV A N C) = vs := by
    apply List.ext_getElem?
    intro i
    by_cases hi : i < n
    · rw [h2 i hi]; simp [hi, sliV]
    · rw [List.getElem?_eq_none (by simp; omega), List.getElem?_eq_none (by omega)]
  rw [e]
  exact h1
theorem rdK_len (b : List Int) (c : Int) (l : List Int) : (rdK b c l).length = l.length := by simp [rdK]
theorem rdK_at (b : List Int) (c : Int) {l : List Int} {i : Nat} (h : i < l.length) : da (rdK b c l) i = (b.drop (cB c (cA l i))).take (wB8 c) := by
  simp [rdK, da, cA, List.getD, h]
theorem sread_short (ao : Option Addr) (n cap : Nat) (w : World) (hno : ¬ n = 256) :
    Calls Tryd.prog 17 #[.slice ao n cap] w fun e w' => e = .returned (.tuple #[.int .i64 0, .slice none 0 0, .slice none 0 0, .int .i64 0, .int .i64 0, .bool false]) ∧ Below w.heap.size w w' := by
  have d : ((n : Int) != 256) = true := by simp; omega
  clear hno
  go_enter Tryd.func17, Tryd.ntmps17
  go_wp2
  refine bodyPost_ret (v := .tuple #[.int .i64 0, .slice none 0 0, .slice none 0 0, .int .i64 0, .int .i64 0, .bool false]) (by simp [results, Tryd.results17, go_sem]) rfl ⟨rfl, Below.refl _ _⟩
theorem sread_bad (b o cap : Nat) (zs : List Int) (w : World) (h : Sl .u8 w (some ⟨b, o, none⟩) 256 cap zs) (hby : Bytes zs) (hno : allB (zs.take 32) = false) :
    Calls Tryd.prog 17 #[.slice (some ⟨b, o, none⟩) 256 cap] w fun e w' => e = .returned (.tuple #[.int .i64 0, .slice none 0 0, .slice none 0 0, .int .i64 0, .int .i64 0, .bool false]) ∧ Below w.heap.size w w' := by
  have hroom := h.room
  have cAl := all_any (some ⟨b, o, none⟩) 32 cap (zs.take 32) w (h.pre (j := 32) (by omega)) (fun z hz => hby z (List.mem_of_mem_take hz)) (by omega)
  rw [hno] at cAl
  have z1 : (32 : Int) ≤ (cap : Int) := by omega
  have z2 : 32 ≤ cap := by omega
  have z3 : ¬ cap = 0 := by omega
  clear h hno hby
  go_enter Tryd.func17, Tryd.ntmps17
  go_wp2_with (first
    | (go_at_call 33; with_reducible refine cAl.mono ?_; rintro e w1 ⟨ho, hm, hc, rfl, -, hb1⟩))
  refine bodyPost_ret (v := .tuple #[.int .i64 0, .slice none 0 0, .slice none 0 0, .int .i64 0, .int .i64 0, .bool false]) (by simp [results, Tryd.results17, go_sem]) rfl ⟨rfl, hb1⟩
set_option maxHeartbeats 4000000 in
theorem sread_in (b o cap : Nat) (zs : List Int) (w : World) (h : Sl .u8 w (some ⟨b, o, none⟩) 256 cap zs) (hby : Bytes zs) (T : Cws w) (hall : allB (zs.take 32) = true) :
    Calls Tryd.prog 17 #[.slice (some ⟨b, o, none⟩) 256 cap] w fun e w' => ∃ co cm cc dt dm dc A N C, e = .returned (.tuple #[.int .i64 (rdC zs), .slice co cm cc, .slice dt dm dc, .int .i64 (rdN zs), .int .i64 (rdP zs), .bool (rsB zs)]) ∧ Own .i64 3 w.heap.size w' co cm cc (rdL' zs) ∧ OwR w.heap.size w' dt dm dc A N C (rdD zs) ∧ Below w.heap.size w w' := by
  have hl := h.len
  have hroom := h.room
  have g0 := srGet hby 0
  have g1 := srGet hby 1
  have g2 := srGet hby 2
  have g3 := srGet hby 3
  obtain ⟨i0, hi, hz0, hz1, hz2⟩ := info_parts Tryd.info26
  have cAl := all_any (some ⟨b, o, none⟩) 32 cap (zs.take 32) w (h.pre (j := 32) (by omega)) (fun z hz => hby z (List.mem_of_mem_take hz)) (by omega)
  rw [hall, head_words hl hby hall] at cAl
  have HRD : Hid (RdS zs ↔ SlbOk (getN zs 0 - 1) (srC (getN zs 1) (ceN (getN zs 0 - 1)).toNat) (rdK zs (getN zs 0 - 1) (srC (getN zs 1) (ceN (getN zs 0 - 1)).toNat)) (getN zs 2) (getN zs 3) ∧ swL (getN zs 0 - 1) (srC (getN zs 1) (ceN (getN zs 0 - 1)).toNat) (rdK zs (getN zs 0 - 1) (srC (getN zs 1) (ceN (getN zs 0 - 1)).toNat)) (getN zs 2) (getN zs 3) = zs) := hid ⟨fun e => e.2, fun e => ⟨hl, e⟩⟩
  have HTR : Hid (RdS zs → rdC zs = getN zs 0 - 1 ∧ rdL' zs = srC (getN zs 1) (ceN (getN zs 0 - 1)).toNat ∧ rdD zs = rdK zs (getN zs 0 - 1) (srC (getN zs 1) (ceN (getN zs 0 - 1)).toNat) ∧ rdN zs = getN zs 2 ∧ rdP zs = getN zs 3 ∧ rsB zs = true) := hid (fun e => rs_t e)
  have HFN : Hid (¬ RdS zs → rdC zs = 0 ∧ rdL' zs = [] ∧ rdD zs = [] ∧ rdN zs = 0 ∧ rdP zs = 0 ∧ rsB zs = false) := hid (fun e => rs_f e)
  generalize getN zs 0 = H0 at *
  generalize getN zs 1 = BT at *
  generalize getN zs 2 = NX at *
  generalize getN zs 3 = PV at *
  obtain ⟨CL, hCL⟩ : ∃ CL, H0 - 1 = CL := ⟨_, rfl⟩
  rw [hCL] at HRD HTR
  have x1 : IntKind.i64.wrap (H0 - 1) = CL := by rw [← hCL]; exact IntWalk.i64_in _ ⟨by omega, by omega⟩
  have cS : ∀ w2, Below w.heap.size w w2 → Calls Tryd.prog 34 #[.int .i64 CL, .int .i64 BT] w2 fun e w' => ∃ co cm cc, e = .returned (.slice co cm cc) ∧ Own .i64 3 w.heap.size w' co cm cc (srC BT (ceN CL).toNat) ∧ Below w.heap.size w w' := fun w2 hb2 =>
    (cellsOf_any CL BT w2 (T.kept hb2) g1.1 g1.2).mono fun e w' ⟨co, cm, cc, h1, h2, h3⟩ => ⟨co, cm, cc, h1, h2.mono hb2.size, next hb2 h3⟩
  have HCT : Hid (∀ i, i < (srC BT (ceN CL).toNat).length → CtOk CL (cA (srC BT (ceN CL).toNat) i)) := hid (fun i hi => by
    have h1 := srC_ok BT (ceN CL).toNat i hi
    have h2 := h1.1
    have h3 := h1.2.1
    exact ⟨h2, by omega⟩)
  have HLS : Hid ((srC BT (ceN CL).toNat).length ≤ 14) := hid (by
    have hce : ceN CL ≤ 14 := by
      by_cases hc : 0 ≤ CL ∧ CL < 6
      · have := cls_in hc; omega
      · rw [ceN_out hc]; omega
    unfold srC
    rw [List.length_map]
    refine Nat.le_trans (List.length_filter_le _ _) ?_
    rw [List.length_range]
    omega)
  generalize srC BT (ceN CL).toNat = CS at *
  have z1 : (32 : Int) ≤ (cap : Int) := by omega
  have z2 : 32 ≤ cap := by omega
  have z3 : ¬ cap = 0 := by omega
  have Hh := hid h
  have HT := hid T
  have cA2 : Calls Tryd.prog 33 #[.slice (some ⟨b, o, none⟩) 32 cap] w fun e w' => ∃ hg hc, e = .returned (.tuple #[.slice (some ⟨hg, 0, none⟩) 4 hc, .bool true]) ∧ (w'.cell? ⟨hg, 0, none⟩ = some (.int .i64 H0) ∧ w'.cell? ⟨hg, 1, none⟩ = some (.int .i64 BT) ∧ w'.cell? ⟨hg, 2, none⟩ = some (.int .i64 NX) ∧ w'.cell? ⟨hg, 3, none⟩ = some (.int .i64 PV)) ∧ Below w.heap.size w w' := by
    refine cAl.mono ?_
    rintro e w' ⟨ho, hm, hc, rfl, hO, hb⟩
    have h4 : hm = 4 := by have := hO.len; simpa using this.symm
    subst h4
    obtain ⟨hg, hc', e⟩ := own_shape hO.row (by omega)
    simp only [Value.slice.injEq] at e
    obtain ⟨rfl, _, rfl⟩ := e
    exact ⟨hg, hc, rfl, ⟨hO.at 0 (by omega) rfl, hO.at 1 (by omega) rfl, hO.at 2 (by omega) rfl, hO.at 3 (by omega) rfl⟩, hb⟩
  clear h T hCL cAl hall
  go_enter Tryd.func17, Tryd.ntmps17
  go_wp2_with (first
    | (go_at_call 33; with_reducible refine cA2.mono ?_; rintro e w1 ⟨hg, hc, rfl, ⟨q0, q1, q2, q3⟩, hb1⟩))
  clear cA2
  go_quiet (fail)
  go_wp2_with (first
    | (go_at_call 34; with_reducible refine (cS _ (below_drewN hb1 _)).mono ?_; rintro e w3 ⟨co, M, cc, rfl, hU, hb3⟩; have hM := hU.len; have hM14 := HLS.out)
    | (at_make; refine wpList_make_full _ rfl _ _ 23 rfl w3.heap.size 26 i0 (.slice none 0 0) 1 Tryd.underlying23 hi hz0 hz1 .i64 .i64 _ _ M rfl rfl rfl rfl ?b2 ?b3 ?b4 ?_))
  case b2 => rw [hz2]; omega
  case b3 => unfold maxLen; omega
  case b4 => exact Nat.le_refl _
  intro w4 hown hgrow
  rw [made_rows] at hown
  have hb4 : Below w3.heap.size w3 w4 := (Below.refl _ _).grown hgrow (Nat.le_refl _) (by intro k hk; cases hk)
  obtain ⟨g, hg⟩ : ∃ g, w3.heap.size = g := ⟨_, rfl⟩
  rw [hg] at hown ⊢
  have HO4 : Hid (OwD g w4 (some ⟨g, 0, none⟩) M M (fun _ => none) (fun _ => 0) (fun _ => 0) (rdK zs CL CS) 0) := hid ⟨⟨_, hown, fun i h => absurd h (by omega)⟩, fun i h => absurd h (by omega), fun i h => absurd h (by omega), fun i j _ h => absurd h (by omega)⟩
  have HU := hid (hU.below hb4)
  have hub : ∀ a, co = some a → a.block < g := fun a e => by have := (hU.row.lt a.block (by rw [e]; rfl)).2; omega
  have hwg : w.heap.size ≤ g := by have := hb3.size; omega
  have Hb := hid (next hb3 hb4)
  have hs4 : g ≤ w4.heap.size := by have := hb4.size; omega
  have Hub := hid hub
  have HM : Hid (M ≤ 14) := hid (by omega)
  have HME := hid hM
  clear hown hgrow hi hz0 hz1 hz2 cS hb1 hb3 hb4 hU q0 q1 q2 q3 hg hub hM hM14 HLS x1 g0 g1 g2 g3
  go_wp2
  go_loopw [50] (fun s wr => ∃ (k : Nat) (A : Nat → Option Addr) (N C : Nat → Nat), k ≤ M ∧ s = .int .i64 k ∧ Hid (OwD g wr (some ⟨g, 0, none⟩) M M A N C (rdK zs CL CS) k) ∧ Hid (Off (fun j => j = g) w4 wr)) (fun s _ => M - (intOf s).toNat)
  case atStart => exact ⟨0, _, _, _, Nat.zero_le _, rfl, HO4, hid (Off.refl _ _)⟩
  case round =>
    clear HO4
    obtain ⟨k, A, N, C, hk, rfl, HO, HF⟩ := hrel
    have HBr : Hid (Below w.heap.size w wr) := hid (Hb.out.trans (HF.out.below (B := w.heap.size) (fun j hj => by omega) (by have := Hb.out.size; omega)))
    have HUr : Hid (Own .i64 3 w.heap.size wr co M cc CS) := hid (HU.out.off HF.out (fun c e => by have := Hub.out c e; omega))
    have hgr : g < wr.heap.size := by obtain ⟨vs, h1, _⟩ := HO.out.row; exact (h1.lt _ rfl).2
    by_cases hlt : k < M
    · obtain ⟨gc, cc', e⟩ := own_shape HUr.out.row (by omega)
      simp only [Value.slice.injEq] at e
      obtain ⟨rfl, _, rfl⟩ := e
      have c0 : wr.cell? ⟨gc, k, none⟩ = some (.int .i64 (cA CS k)) := HUr.out.at k hlt rfl
      have hki : (k : Int) < (M : Int) := by omega
      have hm14 := HM.out
      have hct := HCT.out k (by have := HME.out; omega)
      obtain ⟨i1, i2, i3, i4, i5, i6⟩ := cB_in hct
      have cI := cellIn_any b o cap CL (cA CS k) wr (HT.out.kept HBr.out) hct hroom
      have cC : Calls Tryd.prog 35 #[.slice (some ⟨b, o + cB CL (cA CS k), none⟩) (wB8 CL) (cap - cB CL (cA CS k))] wr fun e w' => ∃ bo c, e = .returned (.slice bo (wB8 CL) c) ∧ Own .u8 5 wr.heap.size w' bo (wB8 CL) c (da (rdK zs CL CS) k) ∧ Below wr.heap.size wr w' := by
        rw [rdK_at zs CL (show k < CS.length by have := HME.out; omega)]
        refine cloneB_any ⟨b, o + cB CL (cA CS k), none⟩ (wB8 CL) (cap - cB CL (cA CS k)) _ wr ?_ (by omega)
        have h1 := (Hh.out.below HBr.out).sliced (cB CL (cA CS k)) (cB CL (cA CS k) + wB8 CL) (by omega) (by omega)
        rw [if_neg (by omega), show cB CL (cA CS k) + wB8 CL - cB CL (cA CS k) = wB8 CL by omega] at h1
        simpa [Addr.add_lit] using h1
      have HS : Hid (∀ w6 bo m c, Below wr.heap.size wr w6 → Own .u8 5 wr.heap.size w6 bo m c (da (rdK zs CL CS) k) → OwD g (w6.setCell ⟨g, k, none⟩ (.slice bo m c)) (some ⟨g, 0, none⟩) M M (upd A k bo) (upd N k m) (upd C k c) (rdK zs CL CS) (k + 1)) := hid (fun w6 bo m c hb6 ho6 => HO.out.next hb6 ho6 hlt (by omega))
      have HQ : Hid (∀ w6, Below wr.heap.size wr w6 → (∃ v, w6.cell? ⟨g, k, none⟩ = some v) ∧ w6.frozen? ⟨g, k, none⟩ = false) := hid (fun w6 hb6 => by
        obtain ⟨vs, h1, _⟩ := HO.out.row
        have h1' := ownsRow_below h1 hb6
        have hvl : vs.length = M := by have := h1.1; omega
        exact ⟨⟨vs[k], by rw [h1'.cellAt k (by omega)]; exact List.getElem?_eq_getElem (by omega)⟩, h1'.frozenAt k⟩)
      have HFF : Hid (∀ w6, Below wr.heap.size wr w6 → ∀ v, Off (fun j => j = g) w4 (w6.setCell ⟨g, k, none⟩ v)) := hid (fun w6 hb6 v => (HF.out.trans (F' := fun _ => False) (Off.of_below hb6) (fun _ h => h.elim)).setCell _ _ rfl)
      clear HO HF HBr HUr hct i1 i2 i3 i4 i5 i6 HU
      generalize da (rdK zs CL CS) k = DK at *
      generalize o + cB CL (cA CS k) = oo at *
      generalize cap - cB CL (cA CS k) = cq at *
      generalize wB8 CL = WB at *
      generalize cA CS k = x at *
      go_wp2_with (first
        | (go_at_call 27; with_reducible refine cI.mono ?_; rintro e w5 ⟨rfl, rfl⟩)
        | (go_at_call 35; with_reducible refine cC.mono ?_; rintro e w6 ⟨bo6, c6, rfl, ho6, hb6⟩; have K6 := hid ho6; have KB := hid hb6; clear ho6 hb6; obtain ⟨⟨v6, hv6⟩, hf6⟩ := HQ.out w6 KB.out))
      go_roundw
      case rel => exact ⟨k + 1, _, _, _, by omega, by go_num, hid (HS.out _ _ _ _ KB.out K6.out), hid (HFF.out _ KB.out _)⟩
      case measure => simp [intOf]; omega
    · obtain rfl : k = M := by omega
      have hki : ¬ ((k : Int) < (k : Int)) := by omega
      have hrl : (rdK zs CL CS).length = k := by rw [rdK_len]; exact HME.out
      have hby2 : ∀ i, i < k → Bytes (da (rdK zs CL CS) i) := fun i hi => by
        rw [rdK_at zs CL (by have := HME.out; omega)]
        exact fun z hz => hby z (List.mem_of_mem_drop (List.mem_of_mem_take hz))
      have hRd := HO.out.rd hrl hby2
      have cW := swrite_rd CL co k cc CS (some ⟨g, 0, none⟩) k k A N C (rdK zs CL CS) NX PV wr HUr.out.sl hRd (by have := HM.out; omega) (by have := HM.out; omega) (HT.out.kept HBr.out)
      have HOA : Hid (∀ w5, Below wr.heap.size wr w5 → OwR w.heap.size w5 (some ⟨g, 0, none⟩) k k A N C (rdK zs CL CS)) := hid (fun w5 hb5 => ((HO.out.all hrl).mono hwg).below hb5)
      have HOU : Hid (∀ w5, Below wr.heap.size wr w5 → Own .i64 3 w.heap.size w5 co k cc CS) := hid (fun w5 hb5 => HUr.out.below hb5)
      have HBA : Hid (∀ w5, Below wr.heap.size wr w5 → Below w.heap.size w w5) := hid (fun w5 hb5 => next HBr.out hb5)
      have hSB : Bytes (swL CL CS (rdK zs CL CS) NX PV) := swL_bytes (fun i hi => hby2 i (by have := HME.out; omega))
      have cE : ∀ w5 xo xm xc, Below wr.heap.size wr w5 → Own .u8 5 wr.heap.size w5 xo xm xc (swL CL CS (rdK zs CL CS) NX PV) → Calls Tryd.prog 36 #[.slice xo xm xc, .slice (some ⟨b, o, none⟩) 256 cap] w5 fun e w' => e = .returned (.bool (decide (swL CL CS (rdK zs CL CS) NX PV = zs))) ∧ w5 = w' := fun w5 xo xm xc hb5 hO5 =>
        equalB_any xo xm xc _ (some ⟨b, o, none⟩) 256 cap zs w5 hO5.sl (Hh.out.below (next HBr.out hb5)) hSB hby
      by_cases hR : RdS zs
      · obtain ⟨hS1, hS2⟩ := HRD.out.1 hR
        have HE := hid (HTR.out hR)
        rw [(sw_t hS1).1] at cW
        rw [decide_eq_true hS2] at cE
        have d0 : ((0 : Int) != 0) = false := rfl
        generalize swL CL CS (rdK zs CL CS) NX PV = Y at *
        clear HO HF HBr HUr hRd HU hby2 hrl HRD HTR HFN hS1 hS2 hR HCT hSB
        go_wp2_with (first
          | (go_at_call 11; with_reducible refine cW.mono ?_; rintro e w5 ⟨xo, xm, xc, rfl, ho5, hb5⟩)
          | (go_at_call 36; with_reducible refine (cE w5 xo xm xc hb5 ho5).mono ?_; rintro e w6 ⟨rfl, rfl⟩))
        exact bodyPost_ret (v := .tuple #[.int .i64 CL, .slice co k cc, .slice (some ⟨g, 0, none⟩) k k, .int .i64 NX, .int .i64 PV, .bool true]) (by simp [results, Tryd.results17, go_sem]) rfl (by
          obtain ⟨e1, e2, e3, e4, e5, e6⟩ := HE.out
          rw [e1, e2, e3, e4, e5, e6]
          exact ⟨co, k, cc, some ⟨g, 0, none⟩, k, k, A, N, C, rfl, HOU.out _ hb5, HOA.out _ hb5, HBA.out _ hb5⟩)
      · have HE := hid (HFN.out hR)
        by_cases hS1 : SlbOk CL CS (rdK zs CL CS) NX PV
        · have hS2 : ¬ swL CL CS (rdK zs CL CS) NX PV = zs := fun e => hR (HRD.out.2 ⟨hS1, e⟩)
          rw [(sw_t hS1).1] at cW
          rw [decide_eq_false hS2] at cE
          have d0 : ((0 : Int) != 0) = false := rfl
          generalize swL CL CS (rdK zs CL CS) NX PV = Y at *
          clear HO HF HBr HUr hRd HU hby2 hrl HRD HTR HFN hS1 hS2 hR HCT hSB
          go_wp2_with (first
            | (go_at_call 11; with_reducible refine cW.mono ?_; rintro e w5 ⟨xo, xm, xc, rfl, ho5, hb5⟩)
            | (go_at_call 36; with_reducible refine (cE w5 xo xm xc hb5 ho5).mono ?_; rintro e w6 ⟨rfl, rfl⟩))
          exact bodyPost_ret (v := .tuple #[.int .i64 0, .slice none 0 0, .slice none 0 0, .int .i64 0, .int .i64 0, .bool false]) (by simp [results, Tryd.results17, go_sem]) rfl (by
            obtain ⟨e1, e2, e3, e4, e5, e6⟩ := HE.out
            rw [e1, e2, e3, e4, e5, e6]
            exact ⟨none, 0, 0, none, 0, 0, fun _ => none, fun _ => 0, fun _ => 0, rfl, own_nil _ _ _ _, owR_nil _ _ _ _ _, HBA.out _ hb5⟩)
        · rw [(sw_f hS1).1] at cW
          have d0 : ((1 : Int) != 0) = true := rfl
          clear HO HF HBr HUr hRd HU hby2 hrl HRD HTR HFN hS1 hR HCT hSB cE
          go_wp2_with (first
            | (go_at_call 11; with_reducible refine cW.mono ?_; rintro e w5 ⟨xo, xm, xc, rfl, -, hb5⟩))
          exact bodyPost_ret (v := .tuple #[.int .i64 0, .slice none 0 0, .slice none 0 0, .int .i64 0, .int .i64 0, .bool false]) (by simp [results, Tryd.results17, go_sem]) rfl (by
            obtain ⟨e1, e2, e3, e4, e5, e6⟩ := HE.out
            rw [e1, e2, e3, e4, e5, e6]
            exact ⟨none, 0, 0, none, 0, 0, fun _ => none, fun _ => 0, fun _ => 0, rfl, own_nil _ _ _ _, owR_nil _ _ _ _ _, HBA.out _ hb5⟩)
theorem sread_own (ao : Option Addr) (n cap : Nat) (zs : List Int) (w : World) (h : Sl .u8 w ao n cap zs) (hby : Bytes zs) (hn : n ≤ 140737488355328) (T : Cws w) :
    Calls Tryd.prog 17 #[.slice ao n cap] w fun e w' => ∃ co cm cc dt dm dc A N C, e = .returned (.tuple #[.int .i64 (rdC zs), .slice co cm cc, .slice dt dm dc, .int .i64 (rdN zs), .int .i64 (rdP zs), .bool (rsB zs)]) ∧ Own .i64 3 w.heap.size w' co cm cc (rdL' zs) ∧ OwR w.heap.size w' dt dm dc A N C (rdD zs) ∧ Below w.heap.size w w' := by
  have hl := h.len
  have no : ¬ RdS zs → Calls Tryd.prog 17 #[.slice ao n cap] w (fun e w' => e = .returned (.tuple #[.int .i64 0, .slice none 0 0, .slice none 0 0, .int .i64 0, .int .i64 0, .bool false]) ∧ Below w.heap.size w w') → Calls Tryd.prog 17 #[.slice ao n cap] w fun e w' => ∃ co cm cc dt dm dc A N C, e = .returned (.tuple #[.int .i64 (rdC zs), .slice co cm cc, .slice dt dm dc, .int .i64 (rdN zs), .int .i64 (rdP zs), .bool (rsB zs)]) ∧ Own .i64 3 w.heap.size w' co cm cc (rdL' zs) ∧ OwR w.heap.size w' dt dm dc A N C (rdD zs) ∧ Below w.heap.size w w' := fun hR hC => by
    obtain ⟨e1, e2, e3, e4, e5, e6⟩ := rs_f hR
    rw [e1, e2, e3, e4, e5, e6]
    exact hC.mono fun e w' ⟨h1, h2⟩ => ⟨none, 0, 0, none, 0, 0, fun _ => none, fun _ => 0, fun _ => 0, h1, own_nil _ _ _ _, owR_nil _ _ _ _ _, h2⟩
  by_cases hn2 : n = 256
  · subst hn2
    obtain ⟨b, o, rfl, _, _⟩ := h.here (by omega)
    by_cases ha : allB (zs.take 32) = true
    · exact sread_in b o cap zs w h hby T ha
    · exact no (fun e => ha (rds_all e)) (sread_bad b o cap zs w h hby (by simpa using ha))
  · exact no (fun e => hn2 (by rw [← hl]; exact e.1)) (sread_short ao n cap w hn2)
end Go.Proofs.YtfnnelkipdajiaaDoor
