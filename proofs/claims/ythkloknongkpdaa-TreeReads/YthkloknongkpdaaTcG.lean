/- bytes.Equal, tree.Read by their contracts. -/
import Derived.Test.YthkloknongkpdaaTcF
import Derived.Test.YthkloknongkpdaaRefTreJ
namespace Go.Proofs.Ythkloknongkpdaa
set_option maxRecDepth 100000
open Go.RowKit
set_option linter.unusedVariables false
set_option linter.unusedSimpArgs false
set_option maxRecDepth 100000

def eqlB (a b : List Int) : Bool := decide (a = b)
theorem equal_sl (ao : Option Addr) (n cap : Nat) (zs : List Int) (bo : Option Addr) (m c : Nat) (ys : List Int) (w : World) (h : Sl .u8 w ao n cap zs) (g : Sl .u8 w bo m c ys) (hz : Bytes zs) (hy : Bytes ys) :
    Calls Try.prog 37 #[.slice ao n cap, .slice bo m c] w fun e w' => e = .returned (.bool (eqlB zs ys)) ∧ w = w' := by
  have c1 := h.text (P := Try.prog) Try.underlying32 Try.underlying5 Try.underlying9
  have c2 := g.text (P := Try.prog) Try.underlying32 Try.underlying5 Try.underlying9
  clear h g
  have HE : Hid (((strOfNums zs).toList == (strOfNums ys).toList) = eqlB zs ys) := hid (by
    by_cases e : zs = ys
    · subst e; simp [eqlB]
    · rw [trText hz hy e]; exact (decide_eq_false e).symm)
  go_enter Try.func37, Try.ntmps37
  go_wp2
  go_ret
  exact ⟨ret_bool HE.out, rfl⟩
theorem nd_ext (zs : List Int) (i k : Nat) : (⟨(ndP zs i k).pos, (ndP zs i k).sz / 4, (ndP zs i k).sz % 4⟩ : Blk) = ⟨getN zs ((16 * i + (1 + 2 * k) : Nat) : Int), getN zs ((16 * i + (2 + 2 * k) : Nat) : Int) / 4, getN zs ((16 * i + (2 + 2 * k) : Nat) : Int) % 4⟩ := rfl
theorem dcC_leaf {zs : List Int} {i : Nat} (h : ndLf zs i = true) : dcC (fun p => getN zs (p : Nat)) i = ndK zs i := by
  unfold ndLf at h
  unfold dcC ndK
  rw [if_pos (by simpa using h)]
theorem dcC_inner {zs : List Int} {i : Nat} (h : ndLf zs i = false) : dcC (fun p => getN zs (p : Nat)) i = 0 := by
  unfold ndLf at h
  unfold dcC
  rw [if_neg (by simpa using h)]
theorem tread_far (P : Int) (ao : Option Addr) (n cap : Nat) (zs : List Int) (w : World) (hl : zs.length = n) (hn : n ≤ 140737488355328) (h : 13 < n / 128) :
    Calls Try.prog 22 #[.int .i64 P, .slice ao n cap] w fun e w' => ∃ bo m c, e = .returned (.tuple #[.slice bo m c, .bool (rxR P zs)]) ∧ OwX w.heap.size w' bo m c (rxL P zs) ∧ Below w.heap.size w w' := by
  have hno : ¬ RdX P zs := fun e => by have := e.size; rw [hl] at this; omega
  rw [(rx_f hno).1, (rx_f hno).2]
  obtain ⟨room, hroom⟩ : ∃ room, n / 128 = room := ⟨_, rfl⟩
  have cM := fun w' => tnodes_same 64 (by omega) w'
  simp only [nt_64] at cM
  have x1 : Int.tdiv (n : Int) 128 = (room : Int) := by rw [Int.tdiv_eq_ediv_of_nonneg (by omega)]; omega
  have x2 : IntKind.i64.wrap (room : Int) = (room : Int) := IntWalk.i64_in _ ⟨by omega, by omega⟩
  have d3 : 13 < (room : Int) := by omega
  clear hroom h hno
  go_enter Try.func22, Try.ntmps22
  go_wp2_with (first
    | (go_at_call 16; with_reducible refine (cM _).mono ?_; rintro e w' ⟨rfl, rfl⟩))
  go_ret2
  exact ⟨none, 0, 0, rfl, owX_nil _ _, Below.refl _ _⟩
set_option maxHeartbeats 4000000 in
theorem tread_in (P : Int) (ao : Option Addr) (n cap : Nat) (zs : List Int) (w : World) (h : Sl .u8 w ao n cap zs) (hby : Bytes zs) (hn : n ≤ 140737488355328) (room : Nat) (hroom : n / 128 = room) (hr2 : room ≤ 13) :
    Calls Try.prog 22 #[.int .i64 P, .slice ao n cap] w fun e w' => ∃ bo m c, e = .returned (.tuple #[.slice bo m c, .bool (rxR P zs)]) ∧ OwX w.heap.size w' bo m c (rxL P zs) ∧ Below w.heap.size w w' := by
  have hl := h.len
  have cM := fun w' => tnodes_same 64 (by omega) w'
  simp only [nt_64] at cM
  have x1 : Int.tdiv (n : Int) 128 = (room : Int) := by rw [Int.tdiv_eq_ediv_of_nonneg (by omega)]; omega
  have x2 : IntKind.i64.wrap (room : Int) = (room : Int) := IntWalk.i64_in _ ⟨by omega, by omega⟩
  have d3 : ¬ (13 < (room : Int)) := by omega
  have HDC : Hid (dcL (fun p => getN zs (p : Nat)) room = dcB zs) := hid (by unfold dcB; rw [hl, hroom])
  have HRD : Hid (RdX P zs ↔ wtE P room (dcB zs) = 0 ∧ wtL P room (dcB zs) = zs) := hid (by
    unfold RdX
    rw [hl, hroom]
    refine ⟨fun c => c.2, fun c => ⟨?_, c⟩⟩
    obtain ⟨a1, a2⟩ := wtE_0.1 c.1
    have h1 := wt_len a1 a2
    rw [c.2, hl] at h1
    omega)
  have Hh := hid h
  clear h hroom
  go_enter Try.func22, Try.ntmps22
  go_wp2_with (first
    | (go_at_call 16; with_reducible refine (cM _).mono ?_; rintro e w' ⟨rfl, rfl⟩))
  go_loopw [7, 21] (fun s7 s21 wr => ∃ (i : Nat) (bo : Option Addr) (m c : Nat), i ≤ room ∧ s7 = .slice bo m c ∧ s21 = .int .i64 i ∧ m ≤ 7 * i ∧ Hid (OwX w.heap.size wr bo m c (dcL (fun p => getN zs (p : Nat)) i)) ∧ Below w.heap.size w wr) (fun _ s21 _ => room - (intOf s21).toNat)
  case atStart => exact ⟨0, none, 0, 0, Nat.zero_le _, rfl, rfl, Nat.le_refl _, hid (owX_nil _ _), Below.refl _ _⟩
  case round =>
    obtain ⟨i, bo, m, c, hi, rfl, rfl, hm, HO, hb⟩ := hrel
    by_cases hlt : i < room
    · have hii : (i : Int) < (room : Int) := by omega
      have cA := nodeAt_sl ao n cap zs i (by omega) wr (Hh.out.below hb) hby hn
      have HKA := hid (dcK_all (fun p => getN zs (p : Nat)) i)
      have hK7 : ndK zs i ≤ 7 := by unfold ndK; omega
      have HK0 : Hid (OwX w.heap.size wr bo m c (dcK (fun p => getN zs (p : Nat)) i 0)) := hid (by rw [dcK_zero]; exact HO.out)
      by_cases hlf : ndLf zs i = true
      · rw [dcC_leaf hlf] at HKA
        rw [hlf] at cA
        have HBD : Hid (∀ k, 0 ≤ (ndP zs i k).pos ∧ (ndP zs i k).pos ≤ 4611686018427387903 ∧ 0 ≤ (ndP zs i k).sz ∧ (ndP zs i k).sz ≤ 4611686018427387903) := hid (fun k => ⟨(trGet hby _).1, (trGet hby _).2, (trGet hby _).1, (trGet hby _).2⟩)
        have HAT : Hid (∀ k, k < ndK zs i → pa (ndPs zs i (ndK zs i)) k = ndP zs i k) := hid (fun k hk => ndPs_at hk)
        have HNK : Hid (∀ k, dcK (fun p => getN zs (p : Nat)) i (k + 1) = dcK (fun p => getN zs (p : Nat)) i k ++ [⟨(ndP zs i k).pos, (ndP zs i k).sz / 4, (ndP zs i k).sz % 4⟩]) := hid (fun k => dcK_next (fun p => getN zs (p : Nat)) i k)
        generalize ndPs zs i (ndK zs i) = PS at *
        generalize ndK zs i = K at *
        have HWR := hid hb
        clear HO hlf
        go_wp2_with (first
          | (go_at_call 35; with_reducible refine cA.mono ?_; rintro e w2 ⟨po, pc, rfl, hP, hb2⟩; have HP2 := hid (hP.below ((Below.refl _ _).alloc (Nat.le_refl _) (.cells #[.bool true, .slice po K pc] 58))); have HK2 := hid (HK0.out.below (hb2.alloc hb2.size (.cells #[.bool true, .slice po K pc] 58))); have HB2 := hid ((next HWR.out hb2).alloc (next HWR.out hb2).size (.cells #[.bool true, .slice po K pc] 58)); clear hP hb2))
        obtain ⟨wo, hwo⟩ : ∃ wo, wo = wr.heap.size := ⟨_, rfl⟩
        rw [← hwo] at HP2
        clear hwo HK0 HWR hb cA
        go_loopw [7, 32] (fun s7 s32 wr => ∃ (k : Nat) (bo : Option Addr) (m c : Nat), k ≤ K ∧ s7 = .slice bo m c ∧ s32 = .int .i64 k ∧ m ≤ 7 * i + k ∧ Hid (OwX w.heap.size wr bo m c (dcK (fun p => getN zs (p : Nat)) i k)) ∧ Hid (OwY wo wr po K pc PS) ∧ Below w.heap.size w wr) (fun _ s32 _ => K - (intOf s32).toNat)
        case atStart => exact ⟨0, bo, m, c, Nat.zero_le _, rfl, rfl, hm, HK2, HP2, HB2.out⟩
        case round =>
          obtain ⟨k, bo, m, c, hk, rfl, rfl, hmk, HO, HP, hbk⟩ := hrel
          clear HK2 HP2 HB2
          by_cases hlk : k < K
          · have hki : (k : Int) < (K : Int) := by omega
            obtain ⟨g, rfl, _, hgl⟩ := HP.out.shape (by omega)
            obtain ⟨e0, e1⟩ := HP.out.ps.at (Below.refl _ _) hlk
            rw [Nat.zero_add] at e0 e1
            rw [HAT.out k hlk] at e0 e1
            obtain ⟨r0, r1, r2, r3⟩ := HBD.out k
            have HNX := hid (HNK.out k)
            generalize ndP zs i k = s at *
            obtain ⟨A, V⟩ := s
            simp only at e0 e1 r0 r1 r2 r3 HNX
            have cE := extentOf_any A V r2 (by omega) (wr.alloc (.cells #[.int .i64 A, .int .i64 V] 68))
            obtain ⟨D, hD⟩ : ∃ D, V / 4 = D := ⟨_, rfl⟩
            obtain ⟨E, hE⟩ : ∃ E, V % 4 = E := ⟨_, rfl⟩
            rw [hD, hE] at HNX cE
            have hrg : RgB ⟨A, D, E⟩ := ⟨by unfold Rg; show _ ≤ A ∧ A ≤ _; omega, by unfold Rg; show _ ≤ D ∧ D ≤ _; omega, by unfold Rg; show _ ≤ E ∧ E ≤ _; omega⟩
            have HF : Hid (∀ w3, Below (wr.alloc (.cells #[.int .i64 A, .int .i64 V] 68)).heap.size (wr.alloc (.cells #[.int .i64 A, .int .i64 V] 68)) w3 → OwX w.heap.size (w3.alloc (.cells #[.int .i64 A, .int .i64 D, .int .i64 E] 42)) bo m c (dcK (fun p => getN zs (p : Nat)) i k) ∧ OwY wo (w3.alloc (.cells #[.int .i64 A, .int .i64 D, .int .i64 E] 42)) (some ⟨g, 0, none⟩) K pc PS ∧ Below w.heap.size w (w3.alloc (.cells #[.int .i64 A, .int .i64 D, .int .i64 E] 42))) := hid (fun w3 hb3 => by
              have h1 : Below wr.heap.size wr (w3.alloc (.cells #[.int .i64 A, .int .i64 D, .int .i64 E] 42)) := by
                have h2 := next ((Below.refl wr.heap.size wr).alloc (Nat.le_refl _) (.cells #[.int .i64 A, .int .i64 V] 68)) hb3
                exact h2.alloc h2.size _
              exact ⟨HO.out.below h1, HP.out.below h1, next hbk h1⟩)
            have h24 : (m + 1) * 24 ≤ 140737488355328 := by omega
            have HRG := hid hrg
            clear HO HP hrg hD hE HAT HNK HBD
            go_wp2_with (first
              | (go_at_call 36; with_reducible refine cE.mono ?_; rintro e w3 ⟨rfl, hb3⟩; obtain ⟨g1, g2, g3⟩ := HF.out w3 hb3; have G1 := hid g1; have G2 := hid g2; have G3 := hid g3; have HE1 := hid (bs_ext w3 w3.heap.size ⟨A, D, E⟩ rfl HRG.out); have hs3 := g3.size; clear g1 g2 g3 hb3 HF)
              | (at_builtin; refine append_xs rfl (.tmp 36) (.tmp 39) rfl w.heap.size _ m _ rfl G1.out.row G1.out.rg (some ⟨w3.heap.size, 0, none⟩) 1 1 [⟨A, D, E⟩] rfl HE1.out h24 hs3 ?_; intro bo2 c2 w4 ho4 hg4; have HO4 := hid ho4; have hb4 : Below w.heap.size w w4 := G3.out.grown hg4 hs3 (fun j hj => (G1.out.row.lt j hj).1); have HP4 := hid (G2.out.grown G1.out.row (by decide) hg4); clear ho4 hg4 G1 G2 G3 HE1))
            go_roundw
            case rel => exact ⟨k + 1, bo2, m + 1, c2, by omega, rfl, by go_num, by omega, by rw [HNX.out]; exact HO4, HP4, hb4⟩
            case measure => simp [intOf]; omega
          · obtain rfl : k = K := by omega
            have hO := HO.out
            rw [HKA.out] at hO
            have HO1 := hid hO
            clear HO hO HP HAT HNK HBD
            go_wp2
            go_roundw
            case rel => exact ⟨i + 1, bo, m, c, by omega, rfl, by go_num, by omega, HO1, hbk⟩
            case measure => simp [intOf]; omega
      · have hlf' : ndLf zs i = false := by simpa using hlf
        rw [dcC_inner hlf'] at HKA
        rw [hlf'] at cA
        have HO1 : Hid (OwX w.heap.size wr bo m c (dcL (fun p => getN zs (p : Nat)) (i + 1))) := hid (by rw [← HKA.out]; exact HK0.out)
        generalize ndPs zs i (ndK zs i) = PS at *
        generalize ndK zs i = K at *
        have HWR := hid hb
        clear HO HK0 hlf hlf'
        go_wp2_with (first
          | (go_at_call 35; with_reducible refine cA.mono ?_; rintro e w2 ⟨po, pc, rfl, hP, hb2⟩; have HK2 := hid (HO1.out.below (hb2.alloc hb2.size (.cells #[.bool false, .slice po K pc] 58))); have HB2 := hid ((next HWR.out hb2).alloc (next HWR.out hb2).size (.cells #[.bool false, .slice po K pc] 58)); clear hP hb2))
        go_roundw
        case rel => exact ⟨i + 1, bo, m, c, by omega, rfl, by go_num, by omega, HK2, HB2.out⟩
        case measure => simp [intOf]; omega
    · obtain rfl : i = room := by omega
      have hO := HO.out
      rw [HDC.out] at hO
      have cW := twrite_bs P (i : Int) bo m c (dcB zs) wr hO.bs (by omega)
      have HOD := hid hO
      have HW : Hid (∀ w2, Below wr.heap.size wr w2 → OwX w.heap.size w2 bo m c (dcB zs) ∧ Sl .u8 w2 ao n cap zs ∧ Below w.heap.size w w2) := hid (fun w2 hb2 => ⟨HOD.out.below hb2, Hh.out.below (next hb hb2), next hb hb2⟩)
      have HWB : Hid (Bytes (wtL P (i : Int) (dcB zs))) := hid (by
        by_cases e : RightX P (dcB zs) ∧ RoomX (i : Int) (dcB zs)
        · rw [(wt_ok e.1 e.2).2]; exact ofL_bytes _
        · rw [show wtL P (i : Int) (dcB zs) = [] from if_neg e]; intro z hz; cases hz)
      clear HO hO HOD
      by_cases hE : wtE P (i : Int) (dcB zs) = 0
      · rw [hE] at cW
        have cQ : ∀ w2 vo vm vc, Own .u8 5 wr.heap.size w2 vo vm vc (wtL P (i : Int) (dcB zs)) → Below wr.heap.size wr w2 → _ := fun w2 vo vm vc hv hb2 => equal_sl vo vm vc (wtL P (i : Int) (dcB zs)) ao n cap zs w2 hv.sl (HW.out w2 hb2).2.1 HWB.out hby
        by_cases hq : wtL P (i : Int) (dcB zs) = zs
        · have hrd := HRD.out.2 ⟨hE, hq⟩
          have HRX := hid (rx_t hrd)
          rw [show eqlB (wtL P (i : Int) (dcB zs)) zs = true from decide_eq_true hq] at cQ
          generalize wtL P (i : Int) (dcB zs) = WL at *
          clear hrd hE hq HRD
          go_wp2_with (first
            | (go_at_call 18; with_reducible refine cW.mono ?_; rintro e w2 ⟨vo, vm, vc, rfl, hv, hb2⟩; obtain ⟨k1, k2, k3⟩ := HW.out w2 hb2; have K1 := hid k1; have K3 := hid k3; have cQ2 := cQ w2 vo vm vc hv hb2; clear hv k1 k2 k3)
            | (go_at_call 37; with_reducible refine cQ2.mono ?_; rintro e w3 ⟨rfl, rfl⟩))
          go_ret2
          rw [HRX.out.1, HRX.out.2]
          exact ⟨bo, m, c, rfl, K1.out, K3.out⟩
        · have hrd : ¬ RdX P zs := fun e => hq (HRD.out.1 e).2
          have HRX := hid (rx_f hrd)
          rw [show eqlB (wtL P (i : Int) (dcB zs)) zs = false from decide_eq_false hq] at cQ
          generalize wtL P (i : Int) (dcB zs) = WL at *
          clear hrd hE hq HRD
          go_wp2_with (first
            | (go_at_call 18; with_reducible refine cW.mono ?_; rintro e w2 ⟨vo, vm, vc, rfl, hv, hb2⟩; obtain ⟨k1, k2, k3⟩ := HW.out w2 hb2; have K3 := hid k3; have cQ2 := cQ w2 vo vm vc hv hb2; clear hv k1 k2 k3)
            | (go_at_call 37; with_reducible refine cQ2.mono ?_; rintro e w3 ⟨rfl, rfl⟩))
          go_ret2
          rw [HRX.out.1, HRX.out.2]
          exact ⟨none, 0, 0, rfl, owX_nil _ _, K3.out⟩
      · have hrd : ¬ RdX P zs := fun e => hE (HRD.out.1 e).1
        have HRX := hid (rx_f hrd)
        have hE' : (wtE P (i : Int) (dcB zs) != 0) = true := by simpa using hE
        generalize wtE P (i : Int) (dcB zs) = WE at *
        clear hrd hE HRD
        go_wp2_with (first
          | (go_at_call 18; with_reducible refine cW.mono ?_; rintro e w2 ⟨vo, vm, vc, rfl, hv, hb2⟩; obtain ⟨k1, k2, k3⟩ := HW.out w2 hb2; have K3 := hid k3; clear hv k1 k2 k3))
        go_ret2
        rw [HRX.out.1, HRX.out.2]
        exact ⟨none, 0, 0, rfl, owX_nil _ _, K3.out⟩
theorem tread_own (P : Int) (ao : Option Addr) (n cap : Nat) (zs : List Int) (w : World) (h : Sl .u8 w ao n cap zs) (hby : Bytes zs) (hn : n ≤ 140737488355328) :
    Calls Try.prog 22 #[.int .i64 P, .slice ao n cap] w fun e w' => ∃ bo m c, e = .returned (.tuple #[.slice bo m c, .bool (rxR P zs)]) ∧ OwX w.heap.size w' bo m c (rxL P zs) ∧ Below w.heap.size w w' := by
  by_cases c : 13 < n / 128
  · exact tread_far P ao n cap zs w h.len hn c
  · exact tread_in P ao n cap zs w h hby hn _ rfl (by omega)
theorem tread_sl (P : Int) (ao : Option Addr) (n cap : Nat) (zs : List Int) (w : World) (h : Sl .u8 w ao n cap zs) (hby : Bytes zs) (hn : n ≤ 140737488355328) :
    Calls Try.prog 22 #[.int .i64 P, .slice ao n cap] w fun e w' => ∃ bo m c, e = .returned (.tuple #[.slice bo m c, .bool (rxR P zs)]) ∧ Bs w' bo m c (rxL P zs) ∧ Below w.heap.size w w' :=
  (tread_own P ao n cap zs w h hby hn).mono fun e w' ⟨bo, m, c, h1, h2, h3⟩ => ⟨bo, m, c, h1, h2.bs, h3⟩
end Go.Proofs.Ythkloknongkpdaa
