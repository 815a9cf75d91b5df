/- StC · StD · StE: these texts, one behind another. -/
import Derived.Test.YtpbljjbhfhfmgaaGreatDoorMxStV
import Derived.Test.YtpbljjbhfhfmgaaGreatDoorMxTagP
import Derived.Test.YtpbljjbhfhfmgaaGreatDoorMxRootB
import Derived.Deep.RegionHeld3
/- bytes.Clone, slices.Clone of slots, of roots, of rows; state.copyEach; state.Copy: by their contracts. -/
namespace Go.Proofs.YtpbljjbhfhfmgaaGreatDoor
set_option maxRecDepth 100000
open Go.RowKit
set_option linter.unusedVariables false
set_option linter.unusedSimpArgs false
set_option maxRecDepth 100000

theorem bclone_all (ao : Option Addr) (n cap : Nat) (zs : List Int) (w : World) (hsl : Sl .u8 w ao n cap zs) (hn : n ≤ 140737488355328) :
    Calls Tryz.prog 32 #[.slice ao n cap] w fun e w' => ∃ ao' cap', e = .returned (.slice ao' n cap') ∧ Own .u8 5 w.heap.size w' ao' n cap' zs ∧ Below w.heap.size w w' := by
  have q22 : ∀ (w : World) (a : Option Addr) (n c n' c' : Nat), (binOp .eql 48 (.slice a n c) (.slice none n' c')).run Tryz.prog w = .ok (.bool a.isNone) w := fun w a n c n' c' => Lib.run_eql_slice_nil w _ _ a n c n' c' Tryz.underlying48
  cases ao with
  | none =>
    obtain rfl : cap = 0 := hsl.void rfl
    obtain rfl : n = 0 := by have := hsl.room; omega
    obtain rfl : zs = [] := List.eq_nil_of_length_eq_zero hsl.len
    go_enter Tryz.func32, Tryz.ntmps32
    go_wp2
    go_ret
    exact ⟨none, 0, rfl, own_nil _ _ _ _, Below.refl _ _⟩
  | some a =>
    have hbA : Below w.heap.size w (w.alloc (.cells #[] 5)) := (Below.refl _ _).alloc (Nat.le_refl _) _
    have HT := hid (hsl.below hbA)
    have hmade : (w.alloc (.cells #[] 5)).ownsRow w.heap.size 5 1 (.slice (some ⟨w.heap.size, 0, none⟩) 0 0) 0 (([] : List Int).map (Value.int .u8)) := World.ownsRow_made w #[] 0 (Nat.le_refl _) (Nat.zero_le _) rfl
    have HM := hid hmade
    have hb1 : 0 + n ≤ 140737488355328 := by omega
    clear hsl hmade
    go_enter Tryz.func32, Tryz.ntmps32
    go_wp2_with (first
      | (at_builtin; refine append_sl rfl (.tmp 5) (.tmp 6) rfl w.heap.size _ 0 [] rfl HM.out (some a) n cap zs rfl HT.out hb1 (by simp) ?_))
    intro bo c' w2 ho2 hg2 _
    have b2 : Below w.heap.size w w2 := hbA.grown hg2 (by simp) (by intro j hj; cases hj; exact Nat.le_refl _)
    clear hg2
    go_wp2
    go_ret
    exact ⟨bo, c', by simp, ho2, b2⟩
theorem own_emptyT (B : Nat) (w : World) (hB : B ≤ w.heap.size) : (w.alloc (.cells #[] 55)).ownsRow B 55 5 (.slice (some ⟨w.heap.size, 0, none⟩) 0 0) 0 (cellsT []) :=
  World.ownsRow_made w #[] 0 hB (Nat.zero_le _) rfl
theorem cloneT_all (ao : Option Addr) (n cap : Nat) (l : List Slt) (w : World) (h : Tb w ao n cap l) (hn : n * 32 ≤ 140737488355328) :
    Calls Tryz.prog 27 #[.slice ao n cap] w fun e w' => ∃ bo c, e = .returned (.slice bo n c) ∧ OwT w.heap.size w' bo n c l ∧ Below w.heap.size w w' := by
  have q22 : ∀ (w : World) (a : Option Addr) (n c n' c' : Nat), (binOp .eql 24 (.slice a n c) (.slice none n' c')).run Tryz.prog w = .ok (.bool a.isNone) w := fun w a n c n' c' => Lib.run_eql_slice_nil w _ _ a n c n' c' Tryz.underlying24
  cases ao with
  | none =>
    obtain rfl : cap = 0 := h.void rfl
    obtain rfl : n = 0 := by have := h.room; omega
    obtain rfl : l = [] := List.eq_nil_of_length_eq_zero h.len
    go_enter Tryz.func27, Tryz.ntmps27
    go_wp2
    go_ret
    exact ⟨none, 0, rfl, owT_nil _ _, Below.refl _ _⟩
  | some a =>
    have hbA : Below w.heap.size w (w.alloc (.cells #[] 55)) := (Below.refl _ _).alloc (Nat.le_refl _) _
    have HT := hid (h.below hbA)
    have hb32 : (0 + n) * 32 ≤ 140737488355328 := by omega
    clear h
    go_enter Tryz.func27, Tryz.ntmps27
    go_wp2_with (first
      | (at_builtin; refine append_tb rfl (.tmp 5) (.tmp 6) rfl w.heap.size _ 0 [] rfl (own_emptyT w.heap.size w (Nat.le_refl _)) (by intro x hx; cases hx) (some a) n cap l rfl HT.out hb32 (by simp) ?_))
    intro bo c' w2 ho2 hg2
    have b2 : Below w.heap.size w w2 := hbA.grown hg2 (by simp) (by intro j hj; cases hj; exact Nat.le_refl _)
    clear hg2
    go_wp2
    go_ret
    exact ⟨bo, c', by simp, ho2, b2⟩
theorem cloneR_all (ao : Option Addr) (n cap : Nat) (l : List Rt) (w : World) (h : Rs w ao n cap l) (hn : n * 32 ≤ 140737488355328) :
    Calls Tryz.prog 64 #[.slice ao n cap] w fun e w' => ∃ bo c, e = .returned (.slice bo n c) ∧ OwR w.heap.size w' bo n c l ∧ Below w.heap.size w w' := by
  have q22 : ∀ (w : World) (a : Option Addr) (n c n' c' : Nat), (binOp .eql 25 (.slice a n c) (.slice none n' c')).run Tryz.prog w = .ok (.bool a.isNone) w := fun w a n c n' c' => Lib.run_eql_slice_nil w _ _ a n c n' c' Tryz.underlying25
  cases ao with
  | none =>
    obtain rfl : cap = 0 := h.void rfl
    obtain rfl : n = 0 := by have := h.room; omega
    obtain rfl : l = [] := List.eq_nil_of_length_eq_zero h.len
    go_enter Tryz.func64, Tryz.ntmps64
    go_wp2
    go_ret
    exact ⟨none, 0, rfl, owR_nil _ _, Below.refl _ _⟩
  | some a =>
    have hbA : Below w.heap.size w (w.alloc (.cells #[] 52)) := (Below.refl _ _).alloc (Nat.le_refl _) _
    have HT := hid (h.below hbA)
    have hb32 : (0 + n) * 32 ≤ 140737488355328 := by omega
    clear h
    go_enter Tryz.func64, Tryz.ntmps64
    go_wp2_with (first
      | (at_builtin; refine append_rs rfl (.tmp 5) (.tmp 6) rfl w.heap.size _ 0 [] rfl (own_emptyR w.heap.size w (Nat.le_refl _)) (by intro x hx; cases hx) (some a) n cap l rfl HT.out hb32 (by simp) ?_))
    intro bo c' w2 ho2 hg2
    have b2 : Below w.heap.size w w2 := hbA.grown hg2 (by simp) (by intro j hj; cases hj; exact Nat.le_refl _)
    clear hg2
    go_wp2
    go_ret
    exact ⟨bo, c', by simp, ho2, b2⟩
theorem Rd.rows {w : World} {ao : Option Addr} {n cap : Nat} {A : Nat → Option Addr} {N C : Nat → Nat} {ds : List (List Int)} (h : Rd w ao n cap A N C ds) : ∀ ad, ao = some ad → ∀ j u, ((List.range n).map (sliV A N C))[j]? = some u → w.cell? (ad.add j) = some u := by
  intro ad e j u hu
  have hj : j < n := by
    have := (List.getElem?_eq_some_iff.1 hu).1
    simpa using this
  obtain ⟨b, off, rfl, _, hc⟩ := h.here (by omega)
  cases e
  rw [Addr.add_lit, hc j hj, ← hu]
  simp [hj, sliV]
theorem cloneW_all (ao : Option Addr) (n cap : Nat) (A : Nat → Option Addr) (N C : Nat → Nat) (ds : List (List Int)) (w : World) (h : Rd w ao n cap A N C ds) (hn : n * 24 ≤ 140737488355328) :
    Calls Tryz.prog 66 #[.slice ao n cap] w fun e w' => ∃ bo c, e = .returned (.slice bo n c) ∧ w'.ownsRow w.heap.size 48 1 (.slice bo n c) n ((List.range n).map (sliV A N C)) ∧ Below w.heap.size w w' := by
  have q22 : ∀ (w : World) (a : Option Addr) (n c n' c' : Nat), (binOp .eql 26 (.slice a n c) (.slice none n' c')).run Tryz.prog w = .ok (.bool a.isNone) w := fun w a n c n' c' => Lib.run_eql_slice_nil w _ _ a n c n' c' Tryz.underlying26
  cases ao with
  | none =>
    obtain rfl : cap = 0 := h.void rfl
    obtain rfl : n = 0 := by have := h.room; omega
    go_enter Tryz.func66, Tryz.ntmps66
    go_wp2
    go_ret
    exact ⟨none, 0, rfl, World.ownsRow_nil _ _ _ _, Below.refl _ _⟩
  | some a =>
    have hbA : Below w.heap.size w (w.alloc (.cells #[] 48)) := (Below.refl _ _).alloc (Nat.le_refl _) _
    have HT := hid ((h.below hbA).rows)
    have hb24 : (0 + n) * 24 ≤ 140737488355328 := by omega
    have hmade : (w.alloc (.cells #[] 48)).ownsRow w.heap.size 48 1 (.slice (some ⟨w.heap.size, 0, none⟩) 0 0) 0 [] := World.ownsRow_made w #[] 0 (Nat.le_refl _) (Nat.zero_le _) rfl
    have HM := hid hmade
    have HU : Hid (∀ u ∈ (List.range n).map (sliV A N C), u.oneCell' = true) := fun u hu => by obtain ⟨i, _, rfl⟩ := List.mem_map.1 hu; rfl
    have hul : ((List.range n).map (sliV A N C)).length = n := by simp
    clear h hmade
    generalize (List.range n).map (sliV A N C) = us at *
    go_enter Tryz.func66, Tryz.ntmps66
    go_wp2_with (first
      | (at_builtin; refine append_rows rfl (.tmp 5) (.tmp 6) rfl w.heap.size _ 0 [] rfl HM.out (some a) n cap us rfl hul HT.out (by intro h; cases h) HU.out hb24 (by simp) ?_))
    intro bo c' w2 ho2 hg2
    have b2 : Below w.heap.size w w2 := hbA.grown hg2 (by simp) (by intro j hj; cases hj; exact Nat.le_refl _)
    clear hg2
    go_wp2
    go_ret
    exact ⟨bo, c', by simp, ho2, b2⟩
end Go.Proofs.YtpbljjbhfhfmgaaGreatDoor
/- state.copyEach and state.Copy by their contracts. -/
namespace Go.Proofs.YtpbljjbhfhfmgaaGreatDoor
set_option maxRecDepth 100000
open Go.RowKit
set_option linter.unusedVariables false
set_option linter.unusedSimpArgs false
set_option maxRecDepth 100000

/-- A state whose slices are the call's own. -/
structure OwS (B : Nat) (w : World) (v : StV) (x : Stt) : Prop where
  s : OwT B w v.so v.sn v.sc x.sl
  r : OwR B w v.ro v.rn v.rc x.rt
  d : OwRw B w v.to v.tn v.tc v.A v.N v.C x.dt
theorem OwS.below {B : Nat} {w w' : World} {v : StV} {x : Stt} (h : OwS B w v x) (hb : Below w.heap.size w w') : OwS B w' v x := ⟨h.s.below hb, h.r.below hb, h.d.below hb⟩
theorem OwS.mono {B B' : Nat} {w : World} {v : StV} {x : Stt} (h : OwS B w v x) (hB : B' ≤ B) : OwS B' w v x := ⟨h.s.mono hB, h.r.mono hB, h.d.mono hB⟩
/-- Rows of bytes, of which the first k are the call's own. -/
structure CpW (B : Nat) (w : World) (g n cap k : Nat) (A : Nat → Option Addr) (N C : Nat → Nat) (ds : List (List Int)) : Prop where
  row : w.ownsRow B 48 1 (.slice (some ⟨g, 0, none⟩) n cap) n ((List.range n).map (sliV A N C))
  own : ∀ i, i < k → Own .u8 5 B w (A i) (N i) (C i) (da ds i)
  apart : ∀ i j, i < j → j < k → ∀ a b, A i = some a → A j = some b → a.block ≠ b.block
theorem CpW.cell {B : Nat} {w : World} {g n cap k : Nat} {A : Nat → Option Addr} {N C : Nat → Nat} {ds : List (List Int)} (h : CpW B w g n cap k A N C ds) {i : Nat} (hi : i < n) : w.cell? ⟨g, i, none⟩ = some (.slice (A i) (N i) (C i)) := by
  rw [h.row.cellAt i (by omega)]
  simp [hi, sliV]
theorem CpW.below {B : Nat} {w w' : World} {g n cap k : Nat} {A : Nat → Option Addr} {N C : Nat → Nat} {ds : List (List Int)} (h : CpW B w g n cap k A N C ds) (hb : Below w.heap.size w w') : CpW B w' g n cap k A N C ds := ⟨ownsRow_below h.row hb, fun i hi => (h.own i hi).below hb, h.apart⟩
theorem CpW.step {B : Nat} {wr w1 : World} {g n cap k : Nat} {A : Nat → Option Addr} {N C : Nat → Nat} {ds : List (List Int)} {a : Option Addr} {m c : Nat} (h : CpW B wr g n cap k A N C ds) (hb : Below wr.heap.size wr w1) (hl : Own .u8 5 wr.heap.size w1 a m c (da ds k)) (hB : B ≤ wr.heap.size) (hk : k < n) :
    CpW B (w1.setCell ⟨g, k, none⟩ (.slice a m c)) g n cap (k + 1) (upd A k a) (upd N k m) (upd C k c) ds := by
  have h1 := h.below hb
  have e : (List.range n).map (sliV (upd A k a) (upd N k m) (upd C k c)) = ((List.range n).map (sliV A N C)).set k (.slice a m c) := by
    apply List.ext_getElem (by simp)
    intro i hi1 hi2
    simp at hi1
    rw [List.getElem_set]
    by_cases e : k = i
    · subst e; simp [sliV, upd_same]
    · rw [if_neg e]; simp [sliV, upd_other _ _ _ (Ne.symm e)]
  have hoff : Off (fun j => j = g) w1 (w1.setCell ⟨g, k, none⟩ (.slice a m c)) := (Off.refl _ _).setCell _ _ rfl
  have hfar : ∀ {B' : Nat} {ao : Option Addr} {n' c' : Nat} {zs : List Int}, Own .u8 5 B' w1 ao n' c' zs → Own .u8 5 B' (w1.setCell ⟨g, k, none⟩ (.slice a m c)) ao n' c' zs := fun ho => ho.off hoff (fun x hx e => own_far2 ho h1.row x hx (by simp [Value.ownBlock, e]))
  refine ⟨by rw [e]; exact (h1.row.stored k (.slice a m c)).1, fun i hi => ?_, fun i j hij hj x y ex ey => ?_⟩
  · by_cases e : i = k
    · subst e
      rw [upd_same, upd_same, upd_same]
      exact (hfar hl).mono hB
    · rw [upd_other _ _ _ e, upd_other _ _ _ e, upd_other _ _ _ e]
      exact hfar (h1.own i (by omega))
  · have hold : ∀ i, i < k → ∀ b, A i = some b → b.block < wr.heap.size := fun i hi b e => ((h.own i hi).row.lt b.block (by rw [e]; rfl)).2
    by_cases e : j = k
    · subst e
      rw [upd_same] at ey
      rw [upd_other _ _ _ (by omega)] at ex
      have h1 := hold i (by omega) x ex
      have h2 := (hl.row.lt y.block (by rw [ey]; rfl)).1
      omega
    · rw [upd_other _ _ _ e] at ey
      rw [upd_other _ _ _ (by omega)] at ex
      exact h.apart i j hij (by omega) x y ex ey
set_option maxHeartbeats 1000000 in
theorem copyD_any (ao : Option Addr) (n cap : Nat) (A : Nat → Option Addr) (N C : Nat → Nat) (ds : List (List Int)) (w : World) (h : Rd w ao n cap A N C ds) (hn : n ≤ 100000) (hN : ∀ i, i < n → N i ≤ 140737488355328) :
    Calls Tryz.prog 31 #[.slice ao n cap, .func (.func 32) #[] #[]] w fun e w' => ∃ bo c A' N' C', e = .returned (.slice bo n c) ∧ OwRw w.heap.size w' bo n c A' N' C' ds ∧ Below w.heap.size w w' := by
  have cC := cloneW_all ao n cap A N C ds w h (by omega)
  have hl := h.len
  have HR := hid h
  have HN := hid hN
  clear h hN
  go_enter Tryz.func31, Tryz.ntmps31
  go_wp2_with (first
    | (go_at_call 66; refine cC.mono ?_; rintro e w1 ⟨bo, c, rfl, ho, hb1⟩; have HO1 := hid ho; have HB1 := hid hb1; clear ho hb1))
  clear cC
  by_cases hn0 : n = 0
  · subst hn0
    obtain rfl : ds = [] := List.eq_nil_of_length_eq_zero hl
    refine wp_loop_rounds 1 ?_
    rw [rounds_succ]
    go_wp2
    go_ret
    exact ⟨bo, c, A, N, C, rfl, ⟨rfl, by simpa using HO1.out, fun i hi => absurd hi (by omega), fun i j _ hj => absurd hj (by omega)⟩, HB1.out⟩
  · obtain ⟨g, c1, hg⟩ := own_shape HO1.out (by omega)
    simp only [Value.slice.injEq, true_and] at hg
    obtain ⟨rfl, rfl⟩ := hg
    have hgB := (HO1.out.lt g rfl).1
    have HS : Hid (CpW w.heap.size w1 g n c 0 A N C ds) := hid ⟨HO1.out, fun i hi => absurd hi (by omega), fun i j _ hj => absurd hj (by omega)⟩
    clear HO1
    go_loopw [11] (fun s11 wr => ∃ (k : Nat) (A' : Nat → Option Addr) (N' C' : Nat → Nat), k ≤ n ∧ s11 = .int .i64 k ∧ Hid (CpW w.heap.size wr g n c k A' N' C' ds) ∧ Hid (∀ i, k ≤ i → A' i = A i ∧ N' i = N i ∧ C' i = C i) ∧ Hid (Below w.heap.size w wr)) (fun s11 _ => n - (intOf s11).toNat)
    case atStart => exact ⟨0, A, N, C, Nat.zero_le _, rfl, HS, hid (fun i _ => ⟨rfl, rfl, rfl⟩), HB1⟩
    case round =>
      obtain ⟨k, A', N', C', hk, rfl, HC, HE, HB⟩ := hrel
      by_cases hlt : k < n
      · have hki : (k : Int) < (n : Int) := by omega
        have c0 := HC.out.cell hlt
        obtain ⟨e1, e2, e3⟩ := HE.out k (Nat.le_refl _)
        rw [e1, e2, e3] at c0
        have hfz : wr.frozen? ⟨g, k, none⟩ = false := HC.out.row.frozenAt k
        have hsl := (HR.out.row k hlt).below HB.out
        have cB := bclone_all (A k) (N k) (C k) (da ds k) wr hsl (HN.out k hlt)
        have HE2 : Hid (∀ a m c, ∀ i, k + 1 ≤ i → upd A' k a i = A i ∧ upd N' k m i = N i ∧ upd C' k c i = C i) := hid (fun a m c i hi => by
          rw [upd_other _ _ _ (by omega), upd_other _ _ _ (by omega), upd_other _ _ _ (by omega)]; exact HE.out i (by omega))
        have hwr := HB.out.size
        have hgl : g < wr.heap.size := (HC.out.row.lt g rfl).2
        clear hsl e1 e2 e3
        generalize A k = a0 at *
        generalize N k = n0 at *
        generalize C k = c0' at *
        go_wp2_with (first
          | (go_at_call 32; refine cB.mono ?_; rintro e w2 ⟨a2, k2, rfl, ho2, hb2⟩; have hfz2 : w2.frozen? ⟨g, k, none⟩ = false := (HC.out.below hb2).row.frozenAt k; have d0 := (HC.out.below hb2).cell hlt; have HS2 := hid (HC.out.step hb2 ho2 hwr hlt); have HB2 : Hid (∀ v, Below w.heap.size w (w2.setCell ⟨g, k, none⟩ v)) := hid (fun v => (next HB.out hb2).setCell (by simpa using hgB) v); clear ho2 hb2))
        go_roundw
        case rel => exact ⟨k + 1, _, _, _, by omega, by go_num, HS2, hid (HE2.out _ _ _), hid (HB2.out _)⟩
        case measure => simp [intOf]; omega
      · obtain rfl : k = n := by omega
        have hki : ¬ ((k : Int) < (k : Int)) := by omega
        have hdl := hl
        clear HR HN
        go_wp2
        go_ret
        exact ⟨_, c, rfl, ⟨A', N', C', hdl, HC.out.row, HC.out.own, HC.out.apart⟩, HB.out⟩
theorem Rt.set_self (l : List Rt) (k : Nat) (h : k < l.length) : l.set k (ra l k) = l := by
  apply List.ext_getElem (by simp)
  intro i h1 h2
  rw [List.getElem_set]
  by_cases e : k = i
  · subst e; simp [ra, List.getD, h]
  · rw [if_neg e]
theorem root_cells {w : World} {b : Nat} {u v x : Value} (h : w.heap[b]? = some (.cells #[u, v, x] 52 (0, 0))) : w.cell? ⟨b, 0, none⟩ = some u ∧ w.cell? ⟨b, 1, none⟩ = some v ∧ w.cell? ⟨b, 2, none⟩ = some x ∧ w.frozen? ⟨b, 0, none⟩ = false ∧ w.frozen? ⟨b, 1, none⟩ = false ∧ w.frozen? ⟨b, 2, none⟩ = false :=
  ⟨by rw [cell_of_row w b 0 _ _ _ h]; rfl, by rw [cell_of_row w b 1 _ _ _ h]; rfl, by rw [cell_of_row w b 2 _ _ _ h]; rfl, frozen_of_row w b 0 _ _ h, frozen_of_row w b 1 _ _ h, frozen_of_row w b 2 _ _ h⟩
set_option maxHeartbeats 1000000 in
theorem cl_copy (nm : ByteArray) (ix gn : Int) (w : World) (hnm : nm.size ≤ 140737488355328) :
    Calls Tryz.prog 29 #[.agg #[.string nm, .int .i64 ix, .int .i64 gn]] w fun e w' => e = .returned (.agg #[.string nm, .int .i64 ix, .int .i64 gn]) ∧ Below w.heap.size w w' := by
  have cC := fun w' => sclone_any nm w' hnm
  have hbA : Below w.heap.size w ((w.alloc (.cells #[.string nm, .int .i64 ix, .int .i64 gn] 52)).alloc (.cells #[.string ⟨#[]⟩, .int .i64 0, .int .i64 0] 52)).drew := (((Below.refl _ _).alloc (Nat.le_refl _) _).alloc (by simp) _).drew
  have hR : R3 ((w.alloc (.cells #[.string nm, .int .i64 ix, .int .i64 gn] 52)).alloc (.cells #[.string ⟨#[]⟩, .int .i64 0, .int .i64 0] 52)).drew w.heap.size 0 ⟨nm, ix, gn⟩ := (r3_new w ⟨nm, ix, gn⟩).below (((Below.refl _ _).alloc (Nat.le_refl _) _).drew)
  have hz : ((w.alloc (.cells #[.string nm, .int .i64 ix, .int .i64 gn] 52)).alloc (.cells #[.string ⟨#[]⟩, .int .i64 0, .int .i64 0] 52)).drew.heap[w.heap.size + 1]? = some (.cells #[.string ⟨#[]⟩, .int .i64 0, .int .i64 0] 52 (0, 0)) := by
    have := heap_alloc_new (w.alloc (.cells #[.string nm, .int .i64 ix, .int .i64 gn] 52)) (.cells #[.string ⟨#[]⟩, .int .i64 0, .int .i64 0] 52)
    rw [show (w.alloc (.cells #[.string nm, .int .i64 ix, .int .i64 gn] 52)).heap.size = w.heap.size + 1 by simp] at this
    exact this
  have Hcl : Hid (∀ w2, Below ((w.alloc (.cells #[.string nm, .int .i64 ix, .int .i64 gn] 52)).alloc (.cells #[.string ⟨#[]⟩, .int .i64 0, .int .i64 0] 52)).drew.heap.size ((w.alloc (.cells #[.string nm, .int .i64 ix, .int .i64 gn] 52)).alloc (.cells #[.string ⟨#[]⟩, .int .i64 0, .int .i64 0] 52)).drew w2 →
      R3 w2 w.heap.size 0 ⟨nm, ix, gn⟩ ∧ w2.heap[w.heap.size + 1]? = some (.cells #[.string ⟨#[]⟩, .int .i64 0, .int .i64 0] 52 (0, 0)) ∧ Below w.heap.size w w2) := hid (fun w2 hb => ⟨hR.below hb, (hb.block _ (Array.getElem?_eq_some_iff.1 hz).1).trans hz, next hbA hb⟩)
  have hne : w.heap.size ≠ w.heap.size + 1 := by omega
  have hne' : w.heap.size + 1 ≠ w.heap.size := by omega
  clear hbA hR hz
  go_enter Tryz.func29, Tryz.ntmps29
  go_wp2_with fail
  go_region_held3 (fun w' => w'.cell? ⟨w.heap.size, 0, none⟩ = some (.string nm) ∧ w'.cell? ⟨w.heap.size, 1, none⟩ = some (.int .i64 ix) ∧ w'.cell? ⟨w.heap.size, 2, none⟩ = some (.int .i64 gn)) (go_keep) (first
    | (go_at_call 30; with_reducible refine (cC _).mono ?_; rintro e w2 ⟨rfl, hb2⟩; obtain ⟨⟨t0, t1, t2⟩, hz2, hbw⟩ := Hcl.out w2 hb2; obtain ⟨q0, q1, q2, f0, f1, f2⟩ := root_cells hz2; have hbw' := hid hbw; clear hb2 hbw hz2))
  go_wp2
  refine bodyPost_ret (v := .agg #[.string nm, .int .i64 ix, .int .i64 gn]) (by simp [results, Tryz.results29, go_sem, q0, q1, q2]) rfl ⟨rfl, ?_⟩
  exact ((hbw'.out.setCell (by simp) _).setCell (by simp) _).setCell (by simp) _
set_option maxHeartbeats 1000000 in
theorem copyR_any (ao : Option Addr) (n cap : Nat) (l : List Rt) (w : World) (h : Rs w ao n cap l) (hn : n ≤ 100000) (hnm : ∀ i, i < n → (ra l i).nm.size ≤ 140737488355328) :
    Calls Tryz.prog 28 #[.slice ao n cap, .func (.func 29) #[] #[]] w fun e w' => ∃ bo c, e = .returned (.slice bo n c) ∧ OwR w.heap.size w' bo n c l ∧ Below w.heap.size w w' := by
  have cC := cloneR_all ao n cap l w h (by omega)
  have hl := h.len
  have HN := hid hnm
  clear h hnm
  go_enter Tryz.func28, Tryz.ntmps28
  go_wp2_with (first
    | (go_at_call 64; refine cC.mono ?_; rintro e w1 ⟨bo, c, rfl, ho, hb1⟩; have HO1 := hid ho; have HB1 := hid hb1; clear ho hb1))
  clear cC
  go_loopw [11] (fun s11 wr => ∃ (k : Nat), k ≤ n ∧ s11 = .int .i64 k ∧ Hid (OwR w.heap.size wr bo n c l) ∧ Hid (Below w.heap.size w wr)) (fun s11 _ => n - (intOf s11).toNat)
  case atStart => exact ⟨0, Nat.zero_le _, rfl, HO1, HB1⟩
  case round =>
    obtain ⟨k, hk, rfl, HO, HB⟩ := hrel
    by_cases hlt : k < n
    · obtain ⟨g, rfl, hgB, hgl⟩ := HO.out.shape (by omega)
      have hki : (k : Int) < (n : Int) := by omega
      obtain ⟨c0, c1, c2⟩ := HO.out.rs.at (Below.refl _ _) hlt
      have HS : Hid (∀ w2, Below wr.heap.size wr w2 → OwR w.heap.size (((w2.setCell ⟨g, k * 3, none⟩ (.string (ra l k).nm)).setCell ⟨g, k * 3 + 1, none⟩ (.int .i64 (ra l k).ix)).setCell ⟨g, k * 3 + 2, none⟩ (.int .i64 (ra l k).gn)) (some ⟨g, 0, none⟩) n c l ∧ R3 w2 g (k * 3) (ra l k) ∧ (∀ j, w2.frozen? ⟨g, j, none⟩ = false) ∧ Below w.heap.size w (((w2.setCell ⟨g, k * 3, none⟩ (.string (ra l k).nm)).setCell ⟨g, k * 3 + 1, none⟩ (.int .i64 (ra l k).ix)).setCell ⟨g, k * 3 + 2, none⟩ (.int .i64 (ra l k).gn))) := hid (fun w2 hb2 => by
        have ho2 := HO.out.below hb2
        have h1 := ho2.set hlt (ho2.rs.rgs hlt)
        rw [Rt.set_self l k (by omega)] at h1
        have h2 := ho2.rs.at (Below.refl _ _) hlt
        rw [Nat.zero_add] at h2
        exact ⟨h1, h2, fun j => ho2.free j, (((next HB.out hb2).setCell (by simpa using hgB) _).setCell (by simpa using hgB) _).setCell (by simpa using hgB) _⟩)
      have cB := cl_copy (ra l k).nm (ra l k).ix (ra l k).gn wr (HN.out k hlt)
      rw [Nat.zero_add] at c0 c1 c2
      generalize ra l k = r at *
      obtain ⟨nm, ix, gn⟩ := r
      simp only at c0 c1 c2 cB HS
      clear HN
      go_wp2_with (first
        | (go_at_call 29; refine cB.mono ?_; rintro e w2 ⟨rfl, hb2⟩; obtain ⟨k1, ⟨d0, d1, d2⟩, kf, k3⟩ := HS.out w2 hb2; have f0 := kf (k * 3); have f1 := kf (k * 3 + 1); have f2 := kf (k * 3 + 2); have K1 := hid k1; have K3 := hid k3; clear k1 kf k3 hb2))
      go_roundw
      case rel => exact ⟨k + 1, by omega, by go_num, K1, K3⟩
      case measure => simp [intOf]; omega
    · obtain rfl : k = n := by omega
      have hki : ¬ ((k : Int) < (k : Int)) := by omega
      clear HN
      go_wp2
      go_ret
      exact ⟨_, c, rfl, HO.out, HB.out⟩
end Go.Proofs.YtpbljjbhfhfmgaaGreatDoor
/- state.Copy by its contract. -/
namespace Go.Proofs.YtpbljjbhfhfmgaaGreatDoor
set_option maxRecDepth 100000
open Go.RowKit
set_option linter.unusedVariables false
set_option linter.unusedSimpArgs false
set_option maxRecDepth 100000

theorem BxT.put6 {w : World} {b : Nat} {v : StV} {x : Stt} (h : BxT w b v x) (ao : Option Addr) (n c : Nat) : BxT (w.setCell ⟨b, 6, none⟩ (.slice ao n c)) b { v with so := ao, sn := n, sc := c } x := heap_setCell_same w b 6 _ 28 _ h
theorem BxT.put7 {w : World} {b : Nat} {v : StV} {x : Stt} (h : BxT w b v x) (ao : Option Addr) (n c : Nat) : BxT (w.setCell ⟨b, 7, none⟩ (.slice ao n c)) b { v with ro := ao, rn := n, rc := c } x := heap_setCell_same w b 7 _ 28 _ h
theorem BxT.put8 {w : World} {b : Nat} {v : StV} {x : Stt} (h : BxT w b v x) (ao : Option Addr) (n c : Nat) (A : Nat → Option Addr) (N C : Nat → Nat) : BxT (w.setCell ⟨b, 8, none⟩ (.slice ao n c)) b { v with to := ao, tn := n, tc := c, A := A, N := N, C := C } x := heap_setCell_same w b 8 _ 28 _ h
def zStV : StV := ⟨none, 0, 0, none, 0, 0, none, 0, 0, fun _ => none, fun _ => 0, fun _ => 0⟩
theorem BxT.frees {w : World} {b : Nat} {v : StV} {x : Stt} (h : BxT w b v x) : w.frozen? ⟨b, 6, none⟩ = false ∧ w.frozen? ⟨b, 7, none⟩ = false ∧ w.frozen? ⟨b, 8, none⟩ = false := ⟨h.free 6, h.free 7, h.free 8⟩
/-- Nine cells of a block laid anew. -/
theorem nine_off (w : World) (z : Nat) (u0 u1 u2 u3 u4 u5 u6 u7 u8 : Value) : Off (fun j => j = z) w (((((((((w.setCell ⟨z, 0, none⟩ u0).setCell ⟨z, 1, none⟩ u1).setCell ⟨z, 2, none⟩ u2).setCell ⟨z, 3, none⟩ u3).setCell ⟨z, 4, none⟩ u4).setCell ⟨z, 5, none⟩ u5).setCell ⟨z, 6, none⟩ u6).setCell ⟨z, 7, none⟩ u7).setCell ⟨z, 8, none⟩ u8) := by
  have h := Off.refl (fun j => j = z) w
  have h := h.setCell ⟨z, 0, none⟩ u0 rfl
  have h := h.setCell ⟨z, 1, none⟩ u1 rfl
  have h := h.setCell ⟨z, 2, none⟩ u2 rfl
  have h := h.setCell ⟨z, 3, none⟩ u3 rfl
  have h := h.setCell ⟨z, 4, none⟩ u4 rfl
  have h := h.setCell ⟨z, 5, none⟩ u5 rfl
  have h := h.setCell ⟨z, 6, none⟩ u6 rfl
  have h := h.setCell ⟨z, 7, none⟩ u7 rfl
  have h := h.setCell ⟨z, 8, none⟩ u8 rfl
  exact h
/-- What stands while a state is copied: its box, the answer's block; all that came in is as it was. -/
structure CpT (w : World) (x : Stt) (W : World) (v' : StV) : Prop where
  bx : BxT W w.heap.size v' x
  zz : BxT W (w.heap.size + 1) zStV zSt
  bl : Below w.heap.size w W
theorem CpT.call {w : World} {x : Stt} {W W' : World} {v' : StV} (h : CpT w x W v') (hb : Below W.heap.size W W') : CpT w x W' v' := ⟨h.bx.kept hb, h.zz.kept hb, next h.bl hb⟩
theorem CpT.zset {w : World} {x : Stt} {W : World} {v' : StV} (h : CpT w x W v') (i : Nat) (u : Value) : BxT (W.setCell ⟨w.heap.size, i, none⟩ u) (w.heap.size + 1) zStV zSt := h.zz.off (F := fun j => j = w.heap.size) ((Off.refl _ _).setCell _ _ rfl) (by omega)
theorem CpT.st6 {w : World} {x : Stt} {W : World} {v' : StV} (h : CpT w x W v') (ao : Option Addr) (n c : Nat) : CpT w x (W.setCell ⟨w.heap.size, 6, none⟩ (.slice ao n c)) { v' with so := ao, sn := n, sc := c } := ⟨h.bx.put6 ao n c, h.zset _ _, h.bl.setCell (by simp) _⟩
theorem CpT.st7 {w : World} {x : Stt} {W : World} {v' : StV} (h : CpT w x W v') (ao : Option Addr) (n c : Nat) : CpT w x (W.setCell ⟨w.heap.size, 7, none⟩ (.slice ao n c)) { v' with ro := ao, rn := n, rc := c } := ⟨h.bx.put7 ao n c, h.zset _ _, h.bl.setCell (by simp) _⟩
theorem CpT.st8 {w : World} {x : Stt} {W : World} {v' : StV} (h : CpT w x W v') (ao : Option Addr) (n c : Nat) (A : Nat → Option Addr) (N C : Nat → Nat) : CpT w x (W.setCell ⟨w.heap.size, 8, none⟩ (.slice ao n c)) { v' with to := ao, tn := n, tc := c, A := A, N := N, C := C } := ⟨h.bx.put8 ao n c A N C, h.zset _ _, h.bl.setCell (by simp) _⟩
def TwoB (b : Nat) (j : Nat) : Prop := j = b ∨ j = b + 1
theorem OwT.stays {b : Nat} {W W' : World} {ao : Option Addr} {n c : Nat} {l : List Slt} (h : OwT (b + 2) W ao n c l) (ho : Off (TwoB b) W W') : OwT (b + 2) W' ao n c l := h.off ho (fun x hx hf => by
  have := (h.row.lt x.block (by rw [hx]; rfl)).1
  rcases hf with hf | hf <;> omega)
theorem OwR.stays {b : Nat} {W W' : World} {ao : Option Addr} {n c : Nat} {l : List Rt} (h : OwR (b + 2) W ao n c l) (ho : Off (TwoB b) W W') : OwR (b + 2) W' ao n c l := h.off ho (fun x hx hf => by
  have := (h.row.lt x.block (by rw [hx]; rfl)).1
  rcases hf with hf | hf <;> omega)
theorem rows_off {B s n : Nat} {e : TypeId} {F : Nat → Prop} {W W' : World} {v : Value} {vs : List Value} (h : W.ownsRow B e s v n vs) (ho : Off F W W') (hn : ∀ g, v.ownBlock = some g → ¬ F g) : W'.ownsRow B e s v n vs := by
  refine ⟨h.1, ?_⟩
  rcases h.2 with hn' | ⟨g, cap', cur, hv, hg, hh, r⟩
  · exact Or.inl hn'
  · refine Or.inr ⟨g, cap', cur, hv, hg, ?_, r⟩
    rw [ho.block g (Array.getElem?_eq_some_iff.1 hh).1 (hn g (by rw [hv]; rfl))]
    exact hh
theorem OwRw.stays {b : Nat} {W W' : World} {ao : Option Addr} {n c : Nat} {A : Nat → Option Addr} {N C : Nat → Nat} {ds : List (List Int)} (h : OwRw (b + 2) W ao n c A N C ds) (ho : Off (TwoB b) W W') : OwRw (b + 2) W' ao n c A N C ds := by
  refine ⟨h.len, rows_off h.row ho (fun g hg hf => ?_), fun i hi => (h.own i hi).off ho (fun x hx hf => ?_), h.apart⟩
  · have := (h.row.lt g hg).1
    rcases hf with hf | hf <;> omega
  · have := ((h.own i hi).row.lt x.block (by rw [hx]; rfl)).1
    rcases hf with hf | hf <;> omega
set_option maxHeartbeats 2000000 in
theorem copyS_any (v : StV) (x : Stt) (w : World) (h : Sta w v x) (hs : v.sn ≤ 100000) (hr : v.rn ≤ 100000) (hd : v.tn ≤ 100000) (hnm : ∀ i, i < v.rn → (ra x.rt i).nm.size ≤ 140737488355328) (hN : ∀ i, i < v.tn → v.N i ≤ 140737488355328) :
    Calls Tryz.prog 10 #[.agg (stC v x)] w fun e w' => ∃ v', e = .returned (.agg (stC v' x)) ∧ OwS w.heap.size w' v' x ∧ Below w.heap.size w w' := by
  have hb0 : Below w.heap.size w ((w.alloc (.cells (stC v x) 28)).alloc (.cells (stC zStV zSt) 28)) := ((Below.refl _ _).alloc (Nat.le_refl _) _).alloc (by simp) _
  have hZ : BxT ((w.alloc (.cells (stC v x) 28)).alloc (.cells (stC zStV zSt) 28)) (w.heap.size + 1) zStV zSt := by
    have := bxT_new (w.alloc (.cells (stC v x) 28)) zStV zSt
    rwa [show (w.alloc (.cells (stC v x) 28)).heap.size = w.heap.size + 1 by simp] at this
  have T0 : CpT w x ((w.alloc (.cells (stC v x) 28)).alloc (.cells (stC zStV zSt) 28)) v := ⟨(bxT_new w v x).more _, hZ, hb0⟩
  have hsz : ((w.alloc (.cells (stC v x) 28)).alloc (.cells (stC zStV zSt) 28)).heap.size = w.heap.size + 2 := by simp
  have HSZ := hid hsz
  have cS := cloneT_all v.so v.sn v.sc x.sl _ (h.s.below hb0) (by omega)
  have CR : Hid (∀ w1, Below w.heap.size w w1 → _) := hid (fun w1 hb => copyR_any v.ro v.rn v.rc x.rt w1 (h.r.below hb) hr hnm)
  have CD : Hid (∀ w1, Below w.heap.size w w1 → _) := hid (fun w1 hb => copyD_any v.to v.tn v.tc v.A v.N v.C x.dt w1 (h.d.below hb) hd hN)
  obtain ⟨c0, c1, c2, c3, c4, c5, c6, c7, c8⟩ := T0.bx.cells
  have HT0 := hid T0
  clear h hb0 hZ T0 hnm hN hsz
  obtain ⟨shp, md, bs, sl, rt, dt⟩ := x
  obtain ⟨so, sn, sc, ro, rn, rc, to, tn, tc, A, N, C⟩ := v
  simp only [stC, zStV, zSt] at *
  go_enter Tryz.func10, Tryz.ntmps10
  go_wp2_with (first
    | (go_at_call 27; refine cS.mono ?_; rintro e w1 ⟨so1, k1, rfl, ho1, hb1⟩; have t1 := HT0.out.call hb1; have f6 := t1.bx.free 6; obtain ⟨q0, q1, q2, q3, q4, q5, q6, q7, q8⟩ := t1.bx.cells; simp only at q0 q1 q2 q3 q4 q5 q6 q7 q8; have t1' := t1.st6 so1 sn k1; have cR1 := CR.out _ t1'.bl; have T1' := hid t1'; have HO1 := hid ho1; clear t1 t1' ho1 hb1 c0 c1 c2 c3 c4 c5 c6 c7 c8)
    | (go_at_call 28; refine cR1.mono ?_; rintro e w2 ⟨ro1, k2, rfl, ho2, hb2⟩; have t2 := T1'.out.call hb2; have f7 := t2.bx.free 7; clear q0 q1 q2 q3 q4 q5 q6 q7 q8; obtain ⟨q0, q1, q2, q3, q4, q5, q6, q7, q8⟩ := t2.bx.cells; simp only at q0 q1 q2 q3 q4 q5 q6 q7 q8; have t2' := t2.st7 ro1 rn k2; have cD2 := CD.out _ t2'.bl; have T2' := hid t2'; have HO2 := hid ho2; have HB2 := hid hb2; clear t2 t2' ho2 hb2)
    | (go_at_call 31; refine cD2.mono ?_; rintro e w3 ⟨to1, k3, A3, N3, C3, rfl, ho3, hb3⟩; have t3 := T2'.out.call hb3; have f8 := t3.bx.free 8; clear q0 q1 q2 q3 q4 q5 q6 q7 q8; obtain ⟨q0, q1, q2, q3, q4, q5, q6, q7, q8⟩ := t3.bx.cells; simp only at q0 q1 q2 q3 q4 q5 q6 q7 q8; obtain ⟨z0, z1, z2, z3, z4, z5, z6, z7, z8⟩ := t3.zz.cells; simp only [zStV, zSt] at z0 z1 z2 z3 z4 z5 z6 z7 z8; have g0 := t3.zz.free 0; have g1 := t3.zz.free 1; have g2 := t3.zz.free 2; have g3 := t3.zz.free 3; have g4 := t3.zz.free 4; have g5 := t3.zz.free 5; have g6 := t3.zz.free 6; have g7 := t3.zz.free 7; have g8 := t3.zz.free 8; have T3' := hid (t3.st8 to1 tn k3 A3 N3 C3); have HO3 := hid ho3; have HB3 := hid hb3; clear t3 ho3 hb3))
  refine bodyPost_ret (v := .agg #[.int .i64 shp.pg, .int .i64 shp.sl, .int .i64 shp.rt, .int .i64 shp.rm, .int .i64 md, .int .i64 bs, .slice so1 sn k1, .slice ro1 rn k2, .slice to1 tn k3]) (by simp [results, Tryz.results10, go_sem, z0, z1, z2, z3, z4, z5, z6, z7, z8]) rfl ⟨⟨so1, sn, k1, ro1, rn, k2, to1, tn, k3, A3, N3, C3⟩, rfl, ?_, ?_⟩
  · have hz := HSZ.out
    have o12 : Off (TwoB w.heap.size) w1 w2 := ((Off.refl (TwoB w.heap.size) w1).setCell _ _ (Or.inl rfl)).trans (F' := TwoB w.heap.size) (Off.of_below HB2.out) (fun j hj => Or.inl hj)
    have o23 : Off (TwoB w.heap.size) w2 w3 := ((Off.refl (TwoB w.heap.size) w2).setCell _ _ (Or.inl rfl)).trans (F' := TwoB w.heap.size) (Off.of_below HB3.out) (fun j hj => Or.inl hj)
    have o34 := ((Off.refl (TwoB w.heap.size) w3).setCell ⟨w.heap.size, 8, none⟩ (.slice to1 tn k3) (Or.inl rfl)).trans (nine_off (w3.setCell ⟨w.heap.size, 8, none⟩ (.slice to1 tn k3)) (w.heap.size + 1) (.int .i64 shp.pg) (.int .i64 shp.sl) (.int .i64 shp.rt) (.int .i64 shp.rm) (.int .i64 md) (.int .i64 bs) (.slice so1 sn k1) (.slice ro1 rn k2) (.slice to1 tn k3)) (fun j hj => Or.inl (Or.inr hj))
    have h1 : OwT (w.heap.size + 2) w1 so1 sn k1 sl := by rw [← hz]; exact HO1.out
    have e1 : w.heap.size + 2 ≤ (w1.setCell ⟨w.heap.size, 6, none⟩ (.slice so1 sn k1)).heap.size := by
      have := T1'.out.zz.lt
      omega
    have e2 : w.heap.size + 2 ≤ (w2.setCell ⟨w.heap.size, 7, none⟩ (.slice ro1 rn k2)).heap.size := by
      have := T2'.out.zz.lt
      omega
    have h2 := HO2.out.mono e1
    have h3 := HO3.out.mono e2
    exact ⟨(((h1.stays o12).stays o23).stays o34).mono (by omega), ((h2.stays o23).stays o34).mono (by omega), (h3.stays o34).mono (by omega)⟩
  · have hb := T3'.out.bl
    exact hb.trans ((nine_off (w3.setCell ⟨w.heap.size, 8, none⟩ (.slice to1 tn k3)) (w.heap.size + 1) (.int .i64 shp.pg) (.int .i64 shp.sl) (.int .i64 shp.rt) (.int .i64 shp.rm) (.int .i64 md) (.int .i64 bs) (.slice so1 sn k1) (.slice ro1 rn k2) (.slice to1 tn k3)).below (fun j hj => by omega) hb.size)
end Go.Proofs.YtpbljjbhfhfmgaaGreatDoor
