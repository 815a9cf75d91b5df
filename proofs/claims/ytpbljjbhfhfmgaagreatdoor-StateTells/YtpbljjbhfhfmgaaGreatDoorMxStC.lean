/- StC · StD · StE · StSp · RefStD: these texts, one behind another. -/
import Derived.Test.YtpbljjbhfhfmgaaGreatDoorMxStV
import Derived.Test.YtpbljjbhfhfmgaaGreatDoorMxTagP
import Derived.Test.YtpbljjbhfhfmgaaGreatDoorMxRootB
import Derived.Deep.RegionHeld3
import Derived.Test.YtpbljjbhfhfmgaaGreatDoorMxHpA
import Derived.Test.YtpbljjbhfhfmgaaGreatDoorMxTabA
import Derived.Test.YtpbljjbhfhfmgaaGreatDoorMxStpB
/- bytes.Clone, slices.Clone of slots, of roots, of rows; state.copyEach; state.Copy: by their contracts. -/
namespace Go.Proofs.YtpbljjbhfhfmgaaGreatDoor
set_option maxRecDepth 100000
open Go.RowKit
set_option linter.unusedVariables false
set_option linter.unusedSimpArgs false
set_option maxRecDepth 100000

theorem bclone_all (ao : Option Addr) (n cap : Nat) (zs : List Int) (w : World) (hsl : Sl .u8 w ao n cap zs) (hn : n ≤ 140737488355328) :
    Calls Tryz.prog 32 #[.slice ao n cap] w fun e w' => ∃ ao' cap', e = .returned (.slice ao' n cap') ∧ Own .u8 5 w.heap.size w' ao' n cap' zs ∧ Below w.heap.size w w' := by
  have q22 : ∀ (w : World) (a : Option Addr) (n c n' c' : Nat), (binOp .eql 48 (.slice a n c) (.slice none n' c')).run Tryz.prog w = .ok (.bool a.isNone) w := fun w a n c n' c' => Lib.run_eql_slice_nil w _ _ a n c n' c' Tryz.underlying48
  cases ao with
  | none =>
    obtain rfl : cap = 0 := hsl.void rfl
    obtain rfl : n = 0 := by have := hsl.room; omega
    obtain rfl : zs = [] := List.eq_nil_of_length_eq_zero hsl.len
    go_enter Tryz.func32, Tryz.ntmps32
    go_wp2
    go_ret
    exact ⟨none, 0, rfl, own_nil _ _ _ _, Below.refl _ _⟩
  | some a =>
    have hbA : Below w.heap.size w (w.alloc (.cells #[] 5)) := (Below.refl _ _).alloc (Nat.le_refl _) _
    have HT := hid (hsl.below hbA)
    have hmade : (w.alloc (.cells #[] 5)).ownsRow w.heap.size 5 1 (.slice (some ⟨w.heap.size, 0, none⟩) 0 0) 0 (([] : List Int).map (Value.int .u8)) := World.ownsRow_made w #[] 0 (Nat.le_refl _) (Nat.zero_le _) rfl
    have HM := hid hmade
    have hb1 : 0 + n ≤ 140737488355328 := by omega
    clear hsl hmade
    go_enter Tryz.func32, Tryz.ntmps32
    go_wp2_with (first
      | (at_builtin; refine append_sl rfl (.tmp 5) (.tmp 6) rfl w.heap.size _ 0 [] rfl HM.out (some a) n cap zs rfl HT.out hb1 (by simp) ?_))
    intro bo c' w2 ho2 hg2 _
    have b2 : Below w.heap.size w w2 := hbA.grown hg2 (by simp) (by intro j hj; cases hj; exact Nat.le_refl _)
    clear hg2
    go_wp2
    go_ret
    exact ⟨bo, c', by simp, ho2, b2⟩
theorem own_emptyT (B : Nat) (w : World) (hB : B ≤ w.heap.size) : (w.alloc (.cells #[] 55)).ownsRow B 55 5 (.slice (some ⟨w.heap.size, 0, none⟩) 0 0) 0 (cellsT []) :=
  World.ownsRow_made w #[] 0 hB (Nat.zero_le _) rfl
theorem cloneT_all (ao : Option Addr) (n cap : Nat) (l : List Slt) (w : World) (h : Tb w ao n cap l) (hn : n * 32 ≤ 140737488355328) :
    Calls Tryz.prog 27 #[.slice ao n cap] w fun e w' => ∃ bo c, e = .returned (.slice bo n c) ∧ OwT w.heap.size w' bo n c l ∧ Below w.heap.size w w' := by
  have q22 : ∀ (w : World) (a : Option Addr) (n c n' c' : Nat), (binOp .eql 24 (.slice a n c) (.slice none n' c')).run Tryz.prog w = .ok (.bool a.isNone) w := fun w a n c n' c' => Lib.run_eql_slice_nil w _ _ a n c n' c' Tryz.underlying24
  cases ao with
  | none =>
    obtain rfl : cap = 0 := h.void rfl
    obtain rfl : n = 0 := by have := h.room; omega
    obtain rfl : l = [] := List.eq_nil_of_length_eq_zero h.len
    go_enter Tryz.func27, Tryz.ntmps27
    go_wp2
    go_ret
    exact ⟨none, 0, rfl, owT_nil _ _, Below.refl _ _⟩
  | some a =>
    have hbA : Below w.heap.size w (w.alloc (.cells #[] 55)) := (Below.refl _ _).alloc (Nat.le_refl _) _
    have HT := hid (h.below hbA)
    have hb32 : (0 + n) * 32 ≤ 140737488355328 := by omega
    clear h
    go_enter Tryz.func27, Tryz.ntmps27
    go_wp2_with (first
      | (at_builtin; refine append_tb rfl (.tmp 5) (.tmp 6) rfl w.heap.size _ 0 [] rfl (own_emptyT w.heap.size w (Nat.le_refl _)) (by intro x hx; cases hx) (some a) n cap l rfl HT.out hb32 (by simp) ?_))
    intro bo c' w2 ho2 hg2
    have b2 : Below w.heap.size w w2 := hbA.grown hg2 (by simp) (by intro j hj; cases hj; exact Nat.le_refl _)
    clear hg2
    go_wp2
    go_ret
    exact ⟨bo, c', by simp, ho2, b2⟩
theorem cloneR_all (ao : Option Addr) (n cap : Nat) (l : List Rt) (w : World) (h : Rs w ao n cap l) (hn : n * 32 ≤ 140737488355328) :
    Calls Tryz.prog 64 #[.slice ao n cap] w fun e w' => ∃ bo c, e = .returned (.slice bo n c) ∧ OwR w.heap.size w' bo n c l ∧ Below w.heap.size w w' := by
  have q22 : ∀ (w : World) (a : Option Addr) (n c n' c' : Nat), (binOp .eql 25 (.slice a n c) (.slice none n' c')).run Tryz.prog w = .ok (.bool a.isNone) w := fun w a n c n' c' => Lib.run_eql_slice_nil w _ _ a n c n' c' Tryz.underlying25
  cases ao with
  | none =>
    obtain rfl : cap = 0 := h.void rfl
    obtain rfl : n = 0 := by have := h.room; omega
    obtain rfl : l = [] := List.eq_nil_of_length_eq_zero h.len
    go_enter Tryz.func64, Tryz.ntmps64
    go_wp2
    go_ret
    exact ⟨none, 0, rfl, owR_nil _ _, Below.refl _ _⟩
  | some a =>
    have hbA : Below w.heap.size w (w.alloc (.cells #[] 52)) := (Below.refl _ _).alloc (Nat.le_refl _) _
    have HT := hid (h.below hbA)
    have hb32 : (0 + n) * 32 ≤ 140737488355328 := by omega
    clear h
    go_enter Tryz.func64, Tryz.ntmps64
    go_wp2_with (first
      | (at_builtin; refine append_rs rfl (.tmp 5) (.tmp 6) rfl w.heap.size _ 0 [] rfl (own_emptyR w.heap.size w (Nat.le_refl _)) (by intro x hx; cases hx) (some a) n cap l rfl HT.out hb32 (by simp) ?_))
    intro bo c' w2 ho2 hg2
    have b2 : Below w.heap.size w w2 := hbA.grown hg2 (by simp) (by intro j hj; cases hj; exact Nat.le_refl _)
    clear hg2
    go_wp2
    go_ret
    exact ⟨bo, c', by simp, ho2, b2⟩
theorem Rd.rows {w : World} {ao : Option Addr} {n cap : Nat} {A : Nat → Option Addr} {N C : Nat → Nat} {ds : List (List Int)} (h : Rd w ao n cap A N C ds) : ∀ ad, ao = some ad → ∀ j u, ((List.range n).map (sliV A N C))[j]? = some u → w.cell? (ad.add j) = some u := by
  intro ad e j u hu
  have hj : j < n := by
    have := (List.getElem?_eq_some_iff.1 hu).1
    simpa using this
  obtain ⟨b, off, rfl, _, hc⟩ := h.here (by omega)
  cases e
  rw [Addr.add_lit, hc j hj, ← hu]
  simp [hj, sliV]
theorem cloneW_all (ao : Option Addr) (n cap : Nat) (A : Nat → Option Addr) (N C : Nat → Nat) (ds : List (List Int)) (w : World) (h : Rd w ao n cap A N C ds) (hn : n * 24 ≤ 140737488355328) :
    Calls Tryz.prog 66 #[.slice ao n cap] w fun e w' => ∃ bo c, e = .returned (.slice bo n c) ∧ w'.ownsRow w.heap.size 48 1 (.slice bo n c) n ((List.range n).map (sliV A N C)) ∧ Below w.heap.size w w' := by
  have q22 : ∀ (w : World) (a : Option Addr) (n c n' c' : Nat), (binOp .eql 26 (.slice a n c) (.slice none n' c')).run Tryz.prog w = .ok (.bool a.isNone) w := fun w a n c n' c' => Lib.run_eql_slice_nil w _ _ a n c n' c' Tryz.underlying26
  cases ao with
  | none =>
    obtain rfl : cap = 0 := h.void rfl
    obtain rfl : n = 0 := by have := h.room; omega
    go_enter Tryz.func66, Tryz.ntmps66
    go_wp2
    go_ret
    exact ⟨none, 0, rfl, World.ownsRow_nil _ _ _ _, Below.refl _ _⟩
  | some a =>
    have hbA : Below w.heap.size w (w.alloc (.cells #[] 48)) := (Below.refl _ _).alloc (Nat.le_refl _) _
    have HT := hid ((h.below hbA).rows)
    have hb24 : (0 + n) * 24 ≤ 140737488355328 := by omega
    have hmade : (w.alloc (.cells #[] 48)).ownsRow w.heap.size 48 1 (.slice (some ⟨w.heap.size, 0, none⟩) 0 0) 0 [] := World.ownsRow_made w #[] 0 (Nat.le_refl _) (Nat.zero_le _) rfl
    have HM := hid hmade
    have HU : Hid (∀ u ∈ (List.range n).map (sliV A N C), u.oneCell' = true) := fun u hu => by obtain ⟨i, _, rfl⟩ := List.mem_map.1 hu; rfl
    have hul : ((List.range n).map (sliV A N C)).length = n := by simp
    clear h hmade
    generalize (List.range n).map (sliV A N C) = us at *
    go_enter Tryz.func66, Tryz.ntmps66
    go_wp2_with (first
      | (at_builtin; refine append_rows rfl (.tmp 5) (.tmp 6) rfl w.heap.size _ 0 [] rfl HM.out (some a) n cap us rfl hul HT.out (by intro h; cases h) HU.out hb24 (by simp) ?_))
    intro bo c' w2 ho2 hg2
    have b2 : Below w.heap.size w w2 := hbA.grown hg2 (by simp) (by intro j hj; cases hj; exact Nat.le_refl _)
    clear hg2
    go_wp2
    go_ret
    exact ⟨bo, c', by simp, ho2, b2⟩
end Go.Proofs.YtpbljjbhfhfmgaaGreatDoor
/- state.copyEach and state.Copy by their contracts. -/
namespace Go.Proofs.YtpbljjbhfhfmgaaGreatDoor
set_option maxRecDepth 100000
open Go.RowKit
set_option linter.unusedVariables false
set_option linter.unusedSimpArgs false
set_option maxRecDepth 100000

/-- A state whose slices are the call's own. -/
structure OwS (B : Nat) (w : World) (v : StV) (x : Stt) : Prop where
  s : OwT B w v.so v.sn v.sc x.sl
  r : OwR B w v.ro v.rn v.rc x.rt
  d : OwRw B w v.to v.tn v.tc v.A v.N v.C x.dt
theorem OwS.below {B : Nat} {w w' : World} {v : StV} {x : Stt} (h : OwS B w v x) (hb : Below w.heap.size w w') : OwS B w' v x := ⟨h.s.below hb, h.r.below hb, h.d.below hb⟩
theorem OwS.mono {B B' : Nat} {w : World} {v : StV} {x : Stt} (h : OwS B w v x) (hB : B' ≤ B) : OwS B' w v x := ⟨h.s.mono hB, h.r.mono hB, h.d.mono hB⟩
/-- Rows of bytes, of which the first k are the call's own. -/
structure CpW (B : Nat) (w : World) (g n cap k : Nat) (A : Nat → Option Addr) (N C : Nat → Nat) (ds : List (List Int)) : Prop where
  row : w.ownsRow B 48 1 (.slice (some ⟨g, 0, none⟩) n cap) n ((List.range n).map (sliV A N C))
  own : ∀ i, i < k → Own .u8 5 B w (A i) (N i) (C i) (da ds i)
  apart : ∀ i j, i < j → j < k → ∀ a b, A i = some a → A j = some b → a.block ≠ b.block
theorem CpW.cell {B : Nat} {w : World} {g n cap k : Nat} {A : Nat → Option Addr} {N C : Nat → Nat} {ds : List (List Int)} (h : CpW B w g n cap k A N C ds) {i : Nat} (hi : i < n) : w.cell? ⟨g, i, none⟩ = some (.slice (A i) (N i) (C i)) := by
  rw [h.row.cellAt i (by omega)]
  simp [hi, sliV]
theorem CpW.below {B : Nat} {w w' : World} {g n cap k : Nat} {A : Nat → Option Addr} {N C : Nat → Nat} {ds : List (List Int)} (h : CpW B w g n cap k A N C ds) (hb : Below w.heap.size w w') : CpW B w' g n cap k A N C ds := ⟨ownsRow_below h.row hb, fun i hi => (h.own i hi).below hb, h.apart⟩
theorem CpW.step {B : Nat} {wr w1 : World} {g n cap k : Nat} {A : Nat → Option Addr} {N C : Nat → Nat} {ds : List (List Int)} {a : Option Addr} {m c : Nat} (h : CpW B wr g n cap k A N C ds) (hb : Below wr.heap.size wr w1) (hl : Own .u8 5 wr.heap.size w1 a m c (da ds k)) (hB : B ≤ wr.heap.size) (hk : k < n) :
    CpW B (w1.setCell ⟨g, k, none⟩ (.slice a m c)) g n cap (k + 1) (upd A k a) (upd N k m) (upd C k c) ds := by
  have h1 := h.below hb
  have e : (List.range n).map (sliV (upd A k a) (upd N k m) (upd C k c)) = ((List.range n).map (sliV A N C)).set k (.slice a m c) := by
    apply List.ext_getElem (by simp)
    intro i hi1 hi2
    simp at hi1
    rw [List.getElem_set]
    by_cases e : k = i
    · subst e; simp [sliV, upd_same]
    · rw [if_neg e]; simp [sliV, upd_other _ _ _ (Ne.symm e)]
  have hoff : Off (fun j => j = g) w1 (w1.setCell ⟨g, k, none⟩ (.slice a m c)) := (Off.refl _ _).setCell _ _ rfl
  have hfar : ∀ {B' : Nat} {ao : Option Addr} {n' c' : Nat} {zs : List Int}, Own .u8 5 B' w1 ao n' c' zs → Own .u8 5 B' (w1.setCell ⟨g, k, none⟩ (.slice a m c)) ao n' c' zs := fun ho => ho.off hoff (fun x hx e => own_far2 ho h1.row x hx (by simp [Value.ownBlock, e]))
  refine ⟨by rw [e]; exact (h1.row.stored k (.slice a m c)).1, fun i hi => ?_, fun i j hij hj x y ex ey => ?_⟩
  · by_cases e : i = k
    · subst e
      rw [upd_same, upd_same, upd_same]
      exact (hfar hl).mono hB
    · rw [upd_other _ _ _ e, upd_other _ _ _ e, upd_other _ _ _ e]
      exact hfar (h1.own i (by omega))
  · have hold : ∀ i, i < k → ∀ b, A i = some b → b.block < wr.heap.size := fun i hi b e => ((h.own i hi).row.lt b.block (by rw [e]; rfl)).2
    by_cases e : j = k
    · subst e
      rw [upd_same] at ey
      rw [upd_other _ _ _ (by omega)] at ex
      have h1 := hold i (by omega) x ex
      have h2 := (hl.row.lt y.block (by rw [ey]; rfl)).1
      omega
    · rw [upd_other _ _ _ e] at ey
      rw [upd_other _ _ _ (by omega)] at ex
      exact h.apart i j hij (by omega) x y ex ey
set_option maxHeartbeats 1000000 in
theorem copyD_any (ao : Option Addr) (n cap : Nat) (A : Nat → Option Addr) (N C : Nat → Nat) (ds : List (List Int)) (w : World) (h : Rd w ao n cap A N C ds) (hn : n ≤ 100000) (hN : ∀ i, i < n → N i ≤ 140737488355328) :
    Calls Tryz.prog 31 #[.slice ao n cap, .func (.func 32) #[] #[]] w fun e w' => ∃ bo c A' N' C', e = .returned (.slice bo n c) ∧ OwRw w.heap.size w' bo n c A' N' C' ds ∧ Below w.heap.size w w' := by
  have cC := cloneW_all ao n cap A N C ds w h (by omega)
  have hl := h.len
  have HR := hid h
  have HN := hid hN
  clear h hN
  go_enter Tryz.func31, Tryz.ntmps31
  go_wp2_with (first
    | (go_at_call 66; refine cC.mono ?_; rintro e w1 ⟨bo, c, rfl, ho, hb1⟩; have HO1 := hid ho; have HB1 := hid hb1; clear ho hb1))
  clear cC
  by_cases hn0 : n = 0
  · subst hn0
    obtain rfl : ds = [] := List.eq_nil_of_length_eq_zero hl
    refine wp_loop_rounds 1 ?_
    rw [rounds_succ]
    go_wp2
    go_ret
    exact ⟨bo, c, A, N, C, rfl, ⟨rfl, by simpa using HO1.out, fun i hi => absurd hi (by omega), fun i j _ hj => absurd hj (by omega)⟩, HB1.out⟩
  · obtain ⟨g, c1, hg⟩ := own_shape HO1.out (by omega)
    simp only [Value.slice.injEq, true_and] at hg
    obtain ⟨rfl, rfl⟩ := hg
    have hgB := (HO1.out.lt g rfl).1
    have HS : Hid (CpW w.heap.size w1 g n c 0 A N C ds) := hid ⟨HO1.out, fun i hi => absurd hi (by omega), fun i j _ hj => absurd hj (by omega)⟩
    clear HO1
    go_loopw [11] (fun s11 wr => ∃ (k : Nat) (A' : Nat → Option Addr) (N' C' : Nat → Nat), k ≤ n ∧ s11 = .int .i64 k ∧ Hid (CpW w.heap.size wr g n c k A' N' C' ds) ∧ Hid (∀ i, k ≤ i → A' i = A i ∧ N' i = N i ∧ C' i = C i) ∧ Hid (Below w.heap.size w wr)) (fun s11 _ => n - (intOf s11).toNat)
    case atStart => exact ⟨0, A, N, C, Nat.zero_le _, rfl, HS, hid (fun i _ => ⟨rfl, rfl, rfl⟩), HB1⟩
    case round =>
      obtain ⟨k, A', N', C', hk, rfl, HC, HE, HB⟩ := hrel
      by_cases hlt : k < n
      · have hki : (k : Int) < (n : Int) := by omega
        have c0 := HC.out.cell hlt
        obtain ⟨e1, e2, e3⟩ := HE.out k (Nat.le_refl _)
        rw [e1, e2, e3] at c0
        have hfz : wr.frozen? ⟨g, k, none⟩ = false := HC.out.row.frozenAt k
        have hsl := (HR.out.row k hlt).below HB.out
        have cB := bclone_all (A k) (N k) (C k) (da ds k) wr hsl (HN.out k hlt)
        have HE2 : Hid (∀ a m c, ∀ i, k + 1 ≤ i → upd A' k a i = A i ∧ upd N' k m i = N i ∧ upd C' k c i = C i) := hid (fun a m c i hi => by
          rw [upd_other _ _ _ (by omega), upd_other _ _ _ (by omega), upd_other _ _ _ (by omega)]; exact HE.out i (by omega))
        have hwr := HB.out.size
        have hgl : g < wr.heap.size := (HC.out.row.lt g rfl).2
        clear hsl e1 e2 e3
        generalize A k = a0 at *
        generalize N k = n0 at *
        generalize C k = c0' at *
        go_wp2_with (first
          | (go_at_call 32; refine cB.mono ?_; rintro e w2 ⟨a2, k2, rfl, ho2, hb2⟩; have hfz2 : w2.frozen? ⟨g, k, none⟩ = false := (HC.out.below hb2).row.frozenAt k; have d0 := (HC.out.below hb2).cell hlt; have HS2 := hid (HC.out.step hb2 ho2 hwr hlt); have HB2 : Hid (∀ v, Below w.heap.size w (w2.setCell ⟨g, k, none⟩ v)) := hid (fun v => (next HB.out hb2).setCell (by simpa using hgB) v); clear ho2 hb2))
        go_roundw
        case rel => exact ⟨k + 1, _, _, _, by omega, by go_num, HS2, hid (HE2.out _ _ _), hid (HB2.out _)⟩
        case measure => simp [intOf]; omega
      · obtain rfl : k = n := by omega
        have hki : ¬ ((k : Int) < (k : Int)) := by omega
        have hdl := hl
        clear HR HN
        go_wp2
        go_ret
        exact ⟨_, c, rfl, ⟨A', N', C', hdl, HC.out.row, HC.out.own, HC.out.apart⟩, HB.out⟩
theorem Rt.set_self (l : List Rt) (k : Nat) (h : k < l.length) : l.set k (ra l k) = l := by
  apply List.ext_getElem (by simp)
  intro i h1 h2
  rw [List.getElem_set]
  by_cases e : k = i
  · subst e; simp [ra, List.getD, h]
  · rw [if_neg e]
theorem root_cells {w : World} {b : Nat} {u v x : Value} (h : w.heap[b]? = some (.cells #[u, v, x] 52 (0, 0))) : w.cell? ⟨b, 0, none⟩ = some u ∧ w.cell? ⟨b, 1, none⟩ = some v ∧ w.cell? ⟨b, 2, none⟩ = some x ∧ w.frozen? ⟨b, 0, none⟩ = false ∧ w.frozen? ⟨b, 1, none⟩ = false ∧ w.frozen? ⟨b, 2, none⟩ = false :=
  ⟨by rw [cell_of_row w b 0 _ _ _ h]; rfl, by rw [cell_of_row w b 1 _ _ _ h]; rfl, by rw [cell_of_row w b 2 _ _ _ h]; rfl, frozen_of_row w b 0 _ _ h, frozen_of_row w b 1 _ _ h, frozen_of_row w b 2 _ _ h⟩
set_option maxHeartbeats 1000000 in
theorem cl_copy (nm : ByteArray) (ix gn : Int) (w : World) (hnm : nm.size ≤ 140737488355328) :
    Calls Tryz.prog 29 #[.agg #[.string nm, .int .i64 ix, .int .i64 gn]] w fun e w' => e = .returned (.agg #[.string nm, .int .i64 ix, .int .i64 gn]) ∧ Below w.heap.size w w' := by
  have cC := fun w' => sclone_any nm w' hnm
  have hbA : Below w.heap.size w ((w.alloc (.cells #[.string nm, .int .i64 ix, .int .i64 gn] 52)).alloc (.cells #[.string ⟨#[]⟩, .int .i64 0, .int .i64 0] 52)).drew := (((Below.refl _ _).alloc (Nat.le_refl _) _).alloc (by simp) _).drew
  have hR : R3 ((w.alloc (.cells #[.string nm, .int .i64 ix, .int .i64 gn] 52)).alloc (.cells #[.string ⟨#[]⟩, .int .i64 0, .int .i64 0] 52)).drew w.heap.size 0 ⟨nm, ix, gn⟩ := (r3_new w ⟨nm, ix, gn⟩).below (((Below.refl _ _).alloc (Nat.le_refl _) _).drew)
  have hz : ((w.alloc (.cells #[.string nm, .int .i64 ix, .int .i64 gn] 52)).alloc (.cells #[.string ⟨#[]⟩, .int .i64 0, .int .i64 0] 52)).drew.heap[w.heap.size + 1]? = some (.cells #[.string ⟨#[]⟩, .int .i64 0, .int .i64 0] 52 (0, 0)) := by
    have := heap_alloc_new (w.alloc (.cells #[.string nm, .int .i64 ix, .int .i64 gn] 52)) (.cells #[.string ⟨#[]⟩, .int .i64 0, .int .i64 0] 52)
    rw [show (w.alloc (.cells #[.string nm, .int .i64 ix, .int .i64 gn] 52)).heap.size = w.heap.size + 1 by simp] at this
    exact this
  have Hcl : Hid (∀ w2, Below ((w.alloc (.cells #[.string nm, .int .i64 ix, .int .i64 gn] 52)).alloc (.cells #[.string ⟨#[]⟩, .int .i64 0, .int .i64 0] 52)).drew.heap.size ((w.alloc (.cells #[.string nm, .int .i64 ix, .int .i64 gn] 52)).alloc (.cells #[.string ⟨#[]⟩, .int .i64 0, .int .i64 0] 52)).drew w2 →
      R3 w2 w.heap.size 0 ⟨nm, ix, gn⟩ ∧ w2.heap[w.heap.size + 1]? = some (.cells #[.string ⟨#[]⟩, .int .i64 0, .int .i64 0] 52 (0, 0)) ∧ Below w.heap.size w w2) := hid (fun w2 hb => ⟨hR.below hb, (hb.block _ (Array.getElem?_eq_some_iff.1 hz).1).trans hz, next hbA hb⟩)
  have hne : w.heap.size ≠ w.heap.size + 1 := by omega
  have hne' : w.heap.size + 1 ≠ w.heap.size := by omega
  clear hbA hR hz
  go_enter Tryz.func29, Tryz.ntmps29
  go_wp2_with fail
  go_region_held3 (fun w' => w'.cell? ⟨w.heap.size, 0, none⟩ = some (.string nm) ∧ w'.cell? ⟨w.heap.size, 1, none⟩ = some (.int .i64 ix) ∧ w'.cell? ⟨w.heap.size, 2, none⟩ = some (.int .i64 gn)) (go_keep) (first
    | (go_at_call 30; with_reducible refine (cC _).mono ?_; rintro e w2 ⟨rfl, hb2⟩; obtain ⟨⟨t0, t1, t2⟩, hz2, hbw⟩ := Hcl.out w2 hb2; obtain ⟨q0, q1, q2, f0, f1, f2⟩ := root_cells hz2; have hbw' := hid hbw; clear hb2 hbw hz2))
  go_wp2
  refine bodyPost_ret (v := .agg #[.string nm, .int .i64 ix, .int .i64 gn]) (by simp [results, Tryz.results29, go_sem, q0, q1, q2]) rfl ⟨rfl, ?_⟩
  exact ((hbw'.out.setCell (by simp) _).setCell (by simp) _).setCell (by simp) _
set_option maxHeartbeats 1000000 in
theorem copyR_any (ao : Option Addr) (n cap : Nat) (l : List Rt) (w : World) (h : Rs w ao n cap l) (hn : n ≤ 100000) (hnm : ∀ i, i < n → (ra l i).nm.size ≤ 140737488355328) :
    Calls Tryz.prog 28 #[.slice ao n cap, .func (.func 29) #[] #[]] w fun e w' => ∃ bo c, e = .returned (.slice bo n c) ∧ OwR w.heap.size w' bo n c l ∧ Below w.heap.size w w' := by
  have cC := cloneR_all ao n cap l w h (by omega)
  have hl := h.len
  have HN := hid hnm
  clear h hnm
  go_enter Tryz.func28, Tryz.ntmps28
  go_wp2_with (first
    | (go_at_call 64; refine cC.mono ?_; rintro e w1 ⟨bo, c, rfl, ho, hb1⟩; have HO1 := hid ho; have HB1 := hid hb1; clear ho hb1))
  clear cC
  go_loopw [11] (fun s11 wr => ∃ (k : Nat), k ≤ n ∧ s11 = .int .i64 k ∧ Hid (OwR w.heap.size wr bo n c l) ∧ Hid (Below w.heap.size w wr)) (fun s11 _ => n - (intOf s11).toNat)
  case atStart => exact ⟨0, Nat.zero_le _, rfl, HO1, HB1⟩
  case round =>
    obtain ⟨k, hk, rfl, HO, HB⟩ := hrel
    by_cases hlt : k < n
    · obtain ⟨g, rfl, hgB, hgl⟩ := HO.out.shape (by omega)
      have hki : (k : Int) < (n : Int) := by omega
      obtain ⟨c0, c1, c2⟩ := HO.out.rs.at (Below.refl _ _) hlt
      have HS : Hid (∀ w2, Below wr.heap.size wr w2 → OwR w.heap.size (((w2.setCell ⟨g, k * 3, none⟩ (.string (ra l k).nm)).setCell ⟨g, k * 3 + 1, none⟩ (.int .i64 (ra l k).ix)).setCell ⟨g, k * 3 + 2, none⟩ (.int .i64 (ra l k).gn)) (some ⟨g, 0, none⟩) n c l ∧ R3 w2 g (k * 3) (ra l k) ∧ (∀ j, w2.frozen? ⟨g, j, none⟩ = false) ∧ Below w.heap.size w (((w2.setCell ⟨g, k * 3, none⟩ (.string (ra l k).nm)).setCell ⟨g, k * 3 + 1, none⟩ (.int .i64 (ra l k).ix)).setCell ⟨g, k * 3 + 2, none⟩ (.int .i64 (ra l k).gn))) := hid (fun w2 hb2 => by
        have ho2 := HO.out.below hb2
        have h1 := ho2.set hlt (ho2.rs.rgs hlt)
        rw [Rt.set_self l k (by omega)] at h1
        have h2 := ho2.rs.at (Below.refl _ _) hlt
        rw [Nat.zero_add] at h2
        exact ⟨h1, h2, fun j => ho2.free j, (((next HB.out hb2).setCell (by simpa using hgB) _).setCell (by simpa using hgB) _).setCell (by simpa using hgB) _⟩)
      have cB := cl_copy (ra l k).nm (ra l k).ix (ra l k).gn wr (HN.out k hlt)
      rw [Nat.zero_add] at c0 c1 c2
      generalize ra l k = r at *
      obtain ⟨nm, ix, gn⟩ := r
      simp only at c0 c1 c2 cB HS
      clear HN
      go_wp2_with (first
        | (go_at_call 29; refine cB.mono ?_; rintro e w2 ⟨rfl, hb2⟩; obtain ⟨k1, ⟨d0, d1, d2⟩, kf, k3⟩ := HS.out w2 hb2; have f0 := kf (k * 3); have f1 := kf (k * 3 + 1); have f2 := kf (k * 3 + 2); have K1 := hid k1; have K3 := hid k3; clear k1 kf k3 hb2))
      go_roundw
      case rel => exact ⟨k + 1, by omega, by go_num, K1, K3⟩
      case measure => simp [intOf]; omega
    · obtain rfl : k = n := by omega
      have hki : ¬ ((k : Int) < (k : Int)) := by omega
      clear HN
      go_wp2
      go_ret
      exact ⟨_, c, rfl, HO.out, HB.out⟩
end Go.Proofs.YtpbljjbhfhfmgaaGreatDoor
/- state.Copy by its contract. -/
namespace Go.Proofs.YtpbljjbhfhfmgaaGreatDoor
set_option maxRecDepth 100000
open Go.RowKit
set_option linter.unusedVariables false
set_option linter.unusedSimpArgs false
set_option maxRecDepth 100000

theorem BxT.put6 {w : World} {b : Nat} {v : StV} {x : Stt} (h : BxT w b v x) (ao : Option Addr) (n c : Nat) : BxT (w.setCell ⟨b, 6, none⟩ (.slice ao n c)) b { v with so := ao, sn := n, sc := c } x := heap_setCell_same w b 6 _ 28 _ h
theorem BxT.put7 {w : World} {b : Nat} {v : StV} {x : Stt} (h : BxT w b v x) (ao : Option Addr) (n c : Nat) : BxT (w.setCell ⟨b, 7, none⟩ (.slice ao n c)) b { v with ro := ao, rn := n, rc := c } x := heap_setCell_same w b 7 _ 28 _ h
theorem BxT.put8 {w : World} {b : Nat} {v : StV} {x : Stt} (h : BxT w b v x) (ao : Option Addr) (n c : Nat) (A : Nat → Option Addr) (N C : Nat → Nat) : BxT (w.setCell ⟨b, 8, none⟩ (.slice ao n c)) b { v with to := ao, tn := n, tc := c, A := A, N := N, C := C } x := heap_setCell_same w b 8 _ 28 _ h
def zStV : StV := ⟨none, 0, 0, none, 0, 0, none, 0, 0, fun _ => none, fun _ => 0, fun _ => 0⟩
theorem BxT.frees {w : World} {b : Nat} {v : StV} {x : Stt} (h : BxT w b v x) : w.frozen? ⟨b, 6, none⟩ = false ∧ w.frozen? ⟨b, 7, none⟩ = false ∧ w.frozen? ⟨b, 8, none⟩ = false := ⟨h.free 6, h.free 7, h.free 8⟩
/-- Nine cells of a block laid anew. -/
theorem nine_off (w : World) (z : Nat) (u0 u1 u2 u3 u4 u5 u6 u7 u8 : Value) : Off (fun j => j = z) w (((((((((w.setCell ⟨z, 0, none⟩ u0).setCell ⟨z, 1, none⟩ u1).setCell ⟨z, 2, none⟩ u2).setCell ⟨z, 3, none⟩ u3).setCell ⟨z, 4, none⟩ u4).setCell ⟨z, 5, none⟩ u5).setCell ⟨z, 6, none⟩ u6).setCell ⟨z, 7, none⟩ u7).setCell ⟨z, 8, none⟩ u8) := by
  have h := Off.refl (fun j => j = z) w
  have h := h.setCell ⟨z, 0, none⟩ u0 rfl
  have h := h.setCell ⟨z, 1, none⟩ u1 rfl
  have h := h.setCell ⟨z, 2, none⟩ u2 rfl
  have h := h.setCell ⟨z, 3, none⟩ u3 rfl
  have h := h.setCell ⟨z, 4, none⟩ u4 rfl
  have h := h.setCell ⟨z, 5, none⟩ u5 rfl
  have h := h.setCell ⟨z, 6, none⟩ u6 rfl
  have h := h.setCell ⟨z, 7, none⟩ u7 rfl
  have h := h.setCell ⟨z, 8, none⟩ u8 rfl
  exact h
/-- What stands while a state is copied: its box, the answer's block; all that came in is as it was. -/
structure CpT (w : World) (x : Stt) (W : World) (v' : StV) : Prop where
  bx : BxT W w.heap.size v' x
  zz : BxT W (w.heap.size + 1) zStV zSt
  bl : Below w.heap.size w W
theorem CpT.call {w : World} {x : Stt} {W W' : World} {v' : StV} (h : CpT w x W v') (hb : Below W.heap.size W W') : CpT w x W' v' := ⟨h.bx.kept hb, h.zz.kept hb, next h.bl hb⟩
theorem CpT.zset {w : World} {x : Stt} {W : World} {v' : StV} (h : CpT w x W v') (i : Nat) (u : Value) : BxT (W.setCell ⟨w.heap.size, i, none⟩ u) (w.heap.size + 1) zStV zSt := h.zz.off (F := fun j => j = w.heap.size) ((Off.refl _ _).setCell _ _ rfl) (by omega)
theorem CpT.st6 {w : World} {x : Stt} {W : World} {v' : StV} (h : CpT w x W v') (ao : Option Addr) (n c : Nat) : CpT w x (W.setCell ⟨w.heap.size, 6, none⟩ (.slice ao n c)) { v' with so := ao, sn := n, sc := c } := ⟨h.bx.put6 ao n c, h.zset _ _, h.bl.setCell (by simp) _⟩
theorem CpT.st7 {w : World} {x : Stt} {W : World} {v' : StV} (h : CpT w x W v') (ao : Option Addr) (n c : Nat) : CpT w x (W.setCell ⟨w.heap.size, 7, none⟩ (.slice ao n c)) { v' with ro := ao, rn := n, rc := c } := ⟨h.bx.put7 ao n c, h.zset _ _, h.bl.setCell (by simp) _⟩
theorem CpT.st8 {w : World} {x : Stt} {W : World} {v' : StV} (h : CpT w x W v') (ao : Option Addr) (n c : Nat) (A : Nat → Option Addr) (N C : Nat → Nat) : CpT w x (W.setCell ⟨w.heap.size, 8, none⟩ (.slice ao n c)) { v' with to := ao, tn := n, tc := c, A := A, N := N, C := C } := ⟨h.bx.put8 ao n c A N C, h.zset _ _, h.bl.setCell (by simp) _⟩
def TwoB (b : Nat) (j : Nat) : Prop := j = b ∨ j = b + 1
theorem OwT.stays {b : Nat} {W W' : World} {ao : Option Addr} {n c : Nat} {l : List Slt} (h : OwT (b + 2) W ao n c l) (ho : Off (TwoB b) W W') : OwT (b + 2) W' ao n c l := h.off ho (fun x hx hf => by
  have := (h.row.lt x.block (by rw [hx]; rfl)).1
  rcases hf with hf | hf <;> omega)
theorem OwR.stays {b : Nat} {W W' : World} {ao : Option Addr} {n c : Nat} {l : List Rt} (h : OwR (b + 2) W ao n c l) (ho : Off (TwoB b) W W') : OwR (b + 2) W' ao n c l := h.off ho (fun x hx hf => by
  have := (h.row.lt x.block (by rw [hx]; rfl)).1
  rcases hf with hf | hf <;> omega)
theorem rows_off {B s n : Nat} {e : TypeId} {F : Nat → Prop} {W W' : World} {v : Value} {vs : List Value} (h : W.ownsRow B e s v n vs) (ho : Off F W W') (hn : ∀ g, v.ownBlock = some g → ¬ F g) : W'.ownsRow B e s v n vs := by
  refine ⟨h.1, ?_⟩
  rcases h.2 with hn' | ⟨g, cap', cur, hv, hg, hh, r⟩
  · exact Or.inl hn'
  · refine Or.inr ⟨g, cap', cur, hv, hg, ?_, r⟩
    rw [ho.block g (Array.getElem?_eq_some_iff.1 hh).1 (hn g (by rw [hv]; rfl))]
    exact hh
theorem OwRw.stays {b : Nat} {W W' : World} {ao : Option Addr} {n c : Nat} {A : Nat → Option Addr} {N C : Nat → Nat} {ds : List (List Int)} (h : OwRw (b + 2) W ao n c A N C ds) (ho : Off (TwoB b) W W') : OwRw (b + 2) W' ao n c A N C ds := by
  refine ⟨h.len, rows_off h.row ho (fun g hg hf => ?_), fun i hi => (h.own i hi).off ho (fun x hx hf => ?_), h.apart⟩
  · have := (h.row.lt g hg).1
    rcases hf with hf | hf <;> omega
  · have := ((h.own i hi).row.lt x.block (by rw [hx]; rfl)).1
    rcases hf with hf | hf <;> omega
set_option maxHeartbeats 2000000 in
theorem copyS_any (v : StV) (x : Stt) (w : World) (h : Sta w v x) (hs : v.sn ≤ 100000) (hr : v.rn ≤ 100000) (hd : v.tn ≤ 100000) (hnm : ∀ i, i < v.rn → (ra x.rt i).nm.size ≤ 140737488355328) (hN : ∀ i, i < v.tn → v.N i ≤ 140737488355328) :
    Calls Tryz.prog 10 #[.agg (stC v x)] w fun e w' => ∃ v', e = .returned (.agg (stC v' x)) ∧ OwS w.heap.size w' v' x ∧ Below w.heap.size w w' := by
  have hb0 : Below w.heap.size w ((w.alloc (.cells (stC v x) 28)).alloc (.cells (stC zStV zSt) 28)) := ((Below.refl _ _).alloc (Nat.le_refl _) _).alloc (by simp) _
  have hZ : BxT ((w.alloc (.cells (stC v x) 28)).alloc (.cells (stC zStV zSt) 28)) (w.heap.size + 1) zStV zSt := by
    have := bxT_new (w.alloc (.cells (stC v x) 28)) zStV zSt
    rwa [show (w.alloc (.cells (stC v x) 28)).heap.size = w.heap.size + 1 by simp] at this
  have T0 : CpT w x ((w.alloc (.cells (stC v x) 28)).alloc (.cells (stC zStV zSt) 28)) v := ⟨(bxT_new w v x).more _, hZ, hb0⟩
  have hsz : ((w.alloc (.cells (stC v x) 28)).alloc (.cells (stC zStV zSt) 28)).heap.size = w.heap.size + 2 := by simp
  have HSZ := hid hsz
  have cS := cloneT_all v.so v.sn v.sc x.sl _ (h.s.below hb0) (by omega)
  have CR : Hid (∀ w1, Below w.heap.size w w1 → _) := hid (fun w1 hb => copyR_any v.ro v.rn v.rc x.rt w1 (h.r.below hb) hr hnm)
  have CD : Hid (∀ w1, Below w.heap.size w w1 → _) := hid (fun w1 hb => copyD_any v.to v.tn v.tc v.A v.N v.C x.dt w1 (h.d.below hb) hd hN)
  obtain ⟨c0, c1, c2, c3, c4, c5, c6, c7, c8⟩ := T0.bx.cells
  have HT0 := hid T0
  clear h hb0 hZ T0 hnm hN hsz
  obtain ⟨shp, md, bs, sl, rt, dt⟩ := x
  obtain ⟨so, sn, sc, ro, rn, rc, to, tn, tc, A, N, C⟩ := v
  simp only [stC, zStV, zSt] at *
  go_enter Tryz.func10, Tryz.ntmps10
  go_wp2_with (first
    | (go_at_call 27; refine cS.mono ?_; rintro e w1 ⟨so1, k1, rfl, ho1, hb1⟩; have t1 := HT0.out.call hb1; have f6 := t1.bx.free 6; obtain ⟨q0, q1, q2, q3, q4, q5, q6, q7, q8⟩ := t1.bx.cells; simp only at q0 q1 q2 q3 q4 q5 q6 q7 q8; have t1' := t1.st6 so1 sn k1; have cR1 := CR.out _ t1'.bl; have T1' := hid t1'; have HO1 := hid ho1; clear t1 t1' ho1 hb1 c0 c1 c2 c3 c4 c5 c6 c7 c8)
    | (go_at_call 28; refine cR1.mono ?_; rintro e w2 ⟨ro1, k2, rfl, ho2, hb2⟩; have t2 := T1'.out.call hb2; have f7 := t2.bx.free 7; clear q0 q1 q2 q3 q4 q5 q6 q7 q8; obtain ⟨q0, q1, q2, q3, q4, q5, q6, q7, q8⟩ := t2.bx.cells; simp only at q0 q1 q2 q3 q4 q5 q6 q7 q8; have t2' := t2.st7 ro1 rn k2; have cD2 := CD.out _ t2'.bl; have T2' := hid t2'; have HO2 := hid ho2; have HB2 := hid hb2; clear t2 t2' ho2 hb2)
    | (go_at_call 31; refine cD2.mono ?_; rintro e w3 ⟨to1, k3, A3, N3, C3, rfl, ho3, hb3⟩; have t3 := T2'.out.call hb3; have f8 := t3.bx.free 8; clear q0 q1 q2 q3 q4 q5 q6 q7 q8; obtain ⟨q0, q1, q2, q3, q4, q5, q6, q7, q8⟩ := t3.bx.cells; simp only at q0 q1 q2 q3 q4 q5 q6 q7 q8; obtain ⟨z0, z1, z2, z3, z4, z5, z6, z7, z8⟩ := t3.zz.cells; simp only [zStV, zSt] at z0 z1 z2 z3 z4 z5 z6 z7 z8; have g0 := t3.zz.free 0; have g1 := t3.zz.free 1; have g2 := t3.zz.free 2; have g3 := t3.zz.free 3; have g4 := t3.zz.free 4; have g5 := t3.zz.free 5; have g6 := t3.zz.free 6; have g7 := t3.zz.free 7; have g8 := t3.zz.free 8; have T3' := hid (t3.st8 to1 tn k3 A3 N3 C3); have HO3 := hid ho3; have HB3 := hid hb3; clear t3 ho3 hb3))
  refine bodyPost_ret (v := .agg #[.int .i64 shp.pg, .int .i64 shp.sl, .int .i64 shp.rt, .int .i64 shp.rm, .int .i64 md, .int .i64 bs, .slice so1 sn k1, .slice ro1 rn k2, .slice to1 tn k3]) (by simp [results, Tryz.results10, go_sem, z0, z1, z2, z3, z4, z5, z6, z7, z8]) rfl ⟨⟨so1, sn, k1, ro1, rn, k2, to1, tn, k3, A3, N3, C3⟩, rfl, ?_, ?_⟩
  · have hz := HSZ.out
    have o12 : Off (TwoB w.heap.size) w1 w2 := ((Off.refl (TwoB w.heap.size) w1).setCell _ _ (Or.inl rfl)).trans (F' := TwoB w.heap.size) (Off.of_below HB2.out) (fun j hj => Or.inl hj)
    have o23 : Off (TwoB w.heap.size) w2 w3 := ((Off.refl (TwoB w.heap.size) w2).setCell _ _ (Or.inl rfl)).trans (F' := TwoB w.heap.size) (Off.of_below HB3.out) (fun j hj => Or.inl hj)
    have o34 := ((Off.refl (TwoB w.heap.size) w3).setCell ⟨w.heap.size, 8, none⟩ (.slice to1 tn k3) (Or.inl rfl)).trans (nine_off (w3.setCell ⟨w.heap.size, 8, none⟩ (.slice to1 tn k3)) (w.heap.size + 1) (.int .i64 shp.pg) (.int .i64 shp.sl) (.int .i64 shp.rt) (.int .i64 shp.rm) (.int .i64 md) (.int .i64 bs) (.slice so1 sn k1) (.slice ro1 rn k2) (.slice to1 tn k3)) (fun j hj => Or.inl (Or.inr hj))
    have h1 : OwT (w.heap.size + 2) w1 so1 sn k1 sl := by rw [← hz]; exact HO1.out
    have e1 : w.heap.size + 2 ≤ (w1.setCell ⟨w.heap.size, 6, none⟩ (.slice so1 sn k1)).heap.size := by
      have := T1'.out.zz.lt
      omega
    have e2 : w.heap.size + 2 ≤ (w2.setCell ⟨w.heap.size, 7, none⟩ (.slice ro1 rn k2)).heap.size := by
      have := T2'.out.zz.lt
      omega
    have h2 := HO2.out.mono e1
    have h3 := HO3.out.mono e2
    exact ⟨(((h1.stays o12).stays o23).stays o34).mono (by omega), ((h2.stays o23).stays o34).mono (by omega), (h3.stays o34).mono (by omega)⟩
  · have hb := T3'.out.bl
    exact hb.trans ((nine_off (w3.setCell ⟨w.heap.size, 8, none⟩ (.slice to1 tn k3)) (w.heap.size + 1) (.int .i64 shp.pg) (.int .i64 shp.sl) (.int .i64 shp.rt) (.int .i64 shp.rm) (.int .i64 md) (.int .i64 bs) (.slice so1 sn k1) (.slice ro1 rn k2) (.slice to1 tn k3)).below (fun j hj => by omega) hb.size)
end Go.Proofs.YtpbljjbhfhfmgaaGreatDoor
/- joistlaw18.Spoil and objects by their contracts. -/
namespace Go.Proofs.YtpbljjbhfhfmgaaGreatDoor
set_option maxRecDepth 100000
open Go.RowKit
set_option linter.unusedVariables false
set_option linter.unusedSimpArgs false
set_option maxRecDepth 100000

/-- The block of a slice. -/
def AtA (a : Option Addr) (j : Nat) : Prop := ∃ c, a = some c ∧ j = c.block
/-- Rows of unlike element types lie apart. -/
theorem diff_at {w : World} {B B' : Nat} {e e' : TypeId} {s s' : Nat} {ao bo : Option Addr} {n c n' c' m m' : Nat} {xs xs' : List Value} (h : w.ownsRow B e s (.slice ao n c) m xs) (h' : w.ownsRow B' e' s' (.slice bo n' c') m' xs') (hne : e ≠ e') : ∀ q, ao = some q → ¬ AtA bo q.block := fun q hq ⟨r, hr, e2⟩ => by
  subst hq hr
  rcases rows_diff h h' hne with h1 | h1
  · cases h1
  · exact h1 (by simp [Value.ownBlock, e2])
theorem OwRw.offA {F : Nat → Prop} {B : Nat} {w w' : World} {ao : Option Addr} {k cap : Nat} {A : Nat → Option Addr} {N C : Nat → Nat} {ds : List (List Int)} (h : OwRw B w ao k cap A N C ds) (ho : Off F w w') (h0 : ∀ q, ao = some q → ¬ F q.block) (h1 : ∀ i, i < k → ∀ q, A i = some q → ¬ F q.block) : OwRw B w' ao k cap A N C ds := by
  refine ⟨h.len, rows_off h.row ho (fun g hg => ?_), fun i hi => (h.own i hi).off ho (h1 i hi), h.apart⟩
  cases ao with
  | none => cases hg
  | some q => cases hg; exact h0 q rfl
theorem owned_none (ao : Option Addr) (c : Nat) (w : World) : Calls Tryz.prog 36 #[.slice ao 0 c] w fun e w' => e = .returned (.bool true) ∧ w' = w := by
  go_enter Tryz.func36, Tryz.ntmps36
  go_wp2
  refine wp_loop_rounds 1 ?_
  rw [rounds_succ]
  go_wp2
  refine wp_loop_rounds 1 ?_
  rw [rounds_succ]
  go_wp2
  go_ret
  exact ⟨rfl, rfl⟩
/-- Rows of the call's own handed to joistlaw01.Owned. -/
theorem owned_ow {B : Nat} {w : World} {ao : Option Addr} {k cap : Nat} {A : Nat → Option Addr} {N C : Nat → Nat} {ds : List (List Int)} (h : OwRw B w ao k cap A N C ds) (hk : k ≤ 200) (hB : B ≤ w.heap.size) :
    Calls Tryz.prog 36 #[.slice ao k cap] w fun e w' => e = .returned (.bool true) ∧ Below B w w' := by
  by_cases h0 : k = 0
  · subst h0
    refine (owned_none ao cap w).mono ?_
    rintro e w' ⟨rfl, rfl⟩
    exact ⟨rfl, Below.refl _ _⟩
  · refine owned_rows (A := A) (N := N) (C := C) (G := fun i => blk (A i)) (by omega) hk h.row (fun i hi => by simp [hi, sliV]) (fun i hi => (h.own i hi).rowb) (fun i j hij hj h1 h2 => ?_) hB
    have si := ((h.own i (by omega)).rowb.spot h1).1
    have sj := ((h.own j hj).rowb.spot h2).1
    exact h.apart i j hij hj _ _ si sj
def spSl : Slt := ⟨-7, false, false, 0, 0⟩
theorem spSl_rgs : RgS spSl := ⟨by unfold Rg; decide, by unfold Rg; decide, by unfold Rg; decide⟩
def spNm : ByteArray := ⟨#[115, 112, 111, 105, 108, 116]⟩
def spRt : Rt := ⟨spNm, 0, 0⟩
theorem spRt_rgr : RgR spRt := by show (6 : Nat) ≤ 9223372036854775807; decide
set_option maxHeartbeats 1000000 in
theorem spoilS_any (B : Nat) (v : StV) (x : Stt) (w : World) (h : OwS B w v x) (hB : B ≤ w.heap.size) (ht : v.tn ≤ 200) :
    Calls Tryz.prog 12 #[.agg (stC v x)] w fun e w' => e = .returned (.tuple #[]) ∧ Below B w w' := by
  have hb0 := st_box w v x
  have hbx := bxT_new w v x
  have h1 := h.s.below hb0
  have h2 := h.r.below hb0
  have h3 := h.d.below hb0
  have hns : ¬ AtA v.so w.heap.size := fun ⟨q, hq, e⟩ => by
    have := (h.s.row.lt q.block (by rw [hq]; rfl)).2
    omega
  have hnr : ¬ AtA v.ro w.heap.size := fun ⟨q, hq, e⟩ => by
    have := (h.r.row.lt q.block (by rw [hq]; rfl)).2
    omega
  have HAS : Hid (∀ q, AtA v.so q → B ≤ q) := hid (fun j ⟨q, hq, e⟩ => by
    have := (h.s.row.lt q.block (by rw [hq]; rfl)).1
    omega)
  have HAR : Hid (∀ q, AtA v.ro q → B ≤ q) := hid (fun j ⟨q, hq, e⟩ => by
    have := (h.r.row.lt q.block (by rw [hq]; rfl)).1
    omega)
  have hcs := h1.cap_le
  have hcr := h2.cap_le
  have HD1 : Hid (∀ w', Off (AtA v.so) (w.alloc (.cells (stC v x) 28)) w' → OwR B w' v.ro v.rn v.rc x.rt ∧ OwRw B w' v.to v.tn v.tc v.A v.N v.C x.dt) := hid (fun w' ho => ⟨h2.off ho (diff_at h2.row h1.row (by decide)), h3.offA ho (diff_at h3.row h1.row (by decide)) (fun i hi => diff_at (h3.own i hi).row h1.row (by decide))⟩)
  have HD2 : Hid (∀ w1 w', OwR B w1 v.ro v.rn v.rc x.rt → OwRw B w1 v.to v.tn v.tc v.A v.N v.C x.dt → Off (AtA v.ro) w1 w' → OwRw B w' v.to v.tn v.tc v.A v.N v.C x.dt) := hid (fun w1 w' h2 h3 ho => h3.offA ho (diff_at h3.row h2.row (by decide)) (fun i hi => diff_at (h3.own i hi).row h2.row (by decide)))
  have HBX := hid hbx
  have HS1 := hid h1
  have HB0 := hid hb0
  have hsz : (w.alloc (.cells (stC v x) 28)).heap.size = w.heap.size + 1 := by simp
  have HSZ := hid hsz
  clear h hb0 hbx h1 h2 h3 hsz
  obtain ⟨shp, md, bs, sl, rt, dt⟩ := x
  obtain ⟨so, sn, sc, ro, rn, rc, to, tn, tc, A, N, C⟩ := v
  simp only [stC] at *
  go_enter Tryz.func12, Tryz.ntmps12
  go_wp2
  generalize w.alloc (.cells #[.int .i64 shp.pg, .int .i64 shp.sl, .int .i64 shp.rt, .int .i64 shp.rm, .int .i64 md, .int .i64 bs, .slice so sn sc, .slice ro rn rc, .slice to tn tc] 28) = W0 at *
  go_loopw [2] (fun s2 wr => ∃ (k : Nat) (m : List Slt), k ≤ sn ∧ s2 = .int .i64 k ∧ Hid (OwT B wr so sn sc m) ∧ Hid (Off (AtA so) W0 wr)) (fun s2 _ => sn - (intOf s2).toNat)
  case atStart => exact ⟨0, sl, Nat.zero_le _, rfl, HS1, hid (Off.refl _ _)⟩
  case round =>
    obtain ⟨k, m, hk, rfl, HO, HF⟩ := hrel
    clear HS1
    have c6 := (HBX.out.off HF.out hns).cells.c6
    simp only at c6
    by_cases hlt : k < sn
    · obtain ⟨g, rfl, hg, _⟩ := HO.out.shape (by omega)
      have s2 := HO.out.tb.at (Below.refl _ _) hlt
      rw [Nat.zero_add] at s2
      obtain ⟨q0, q1, q2, q3, q4⟩ := s2
      have f0 := HO.out.free (k * 5)
      have f1 := HO.out.free (k * 5 + 1)
      have f2 := HO.out.free (k * 5 + 2)
      have f3 := HO.out.free (k * 5 + 3)
      have f4 := HO.out.free (k * 5 + 4)
      have HO2 := hid (HO.out.set hlt spSl_rgs)
      have hki : (k : Int) < (sn : Int) := by omega
      have hat : AtA (some (⟨g, 0, none⟩ : Addr)) g := ⟨_, rfl, rfl⟩
      have HF2 := hid (((((HF.out.setCell ⟨g, k * 5, none⟩ (.int .i64 (-7)) hat).setCell ⟨g, k * 5 + 1, none⟩ (.bool false) hat).setCell ⟨g, k * 5 + 2, none⟩ (.bool false) hat).setCell ⟨g, k * 5 + 3, none⟩ (.int .i64 0) hat).setCell ⟨g, k * 5 + 4, none⟩ (.int .i64 0) hat)
      clear HO HF hat hns hnr
      go_wp2
      go_roundw
      case rel => exact ⟨k + 1, m.set k spSl, by omega, by go_num, HO2, HF2⟩
      case measure => simp [intOf]; omega
    · obtain rfl : k = sn := by omega
      obtain ⟨hr1, hd1⟩ := HD1.out _ HF.out
      have HR1 := hid hr1
      have HDD := hid hd1
      have HBX1 := hid (HBX.out.off HF.out hns)
      have HBL : Hid (Below B w wr) := hid ((HB0.out.mono hB).trans (HF.out.below (fun j hj => HAS.out j hj) (by rw [HSZ.out]; omega)))
      have hW1 : w.heap.size < wr.heap.size := HBX1.out.lt
      clear HD1 HO HF hr1 hd1 HBX HB0 HSZ
      obtain ⟨w1, rfl⟩ : ∃ w1, w1 = wr := ⟨wr, rfl⟩
      go_wp2
      go_loopw [3] (fun s3 wr => ∃ (i : Nat) (l : List Rt), i ≤ rn ∧ s3 = .int .i64 i ∧ Hid (OwR B wr ro rn rc l) ∧ Hid (Off (AtA ro) w1 wr)) (fun s3 _ => rn - (intOf s3).toNat)
      case atStart => exact ⟨0, rt, Nat.zero_le _, rfl, HR1, hid (Off.refl _ _)⟩
      case round =>
        obtain ⟨i, l, hi, rfl, HO, HF⟩ := hrel
        have c7 := (HBX1.out.off HF.out hnr).cells.c7
        simp only at c7
        by_cases hlt : i < rn
        · obtain ⟨g, rfl, hg, _⟩ := HO.out.shape (by omega)
          have s2 := HO.out.rs.at (Below.refl _ _) hlt
          rw [Nat.zero_add] at s2
          obtain ⟨q0, q1, q2⟩ := s2
          have f0 := HO.out.free (i * 3)
          have f1 := HO.out.free (i * 3 + 1)
          have f2 := HO.out.free (i * 3 + 2)
          have HO2 := hid (HO.out.set hlt spRt_rgr)
          have hki : (i : Int) < (rn : Int) := by omega
          have hat : AtA (some (⟨g, 0, none⟩ : Addr)) g := ⟨_, rfl, rfl⟩
          have HF2 := hid (((HF.out.setCell ⟨g, i * 3, none⟩ (.string spNm) hat).setCell ⟨g, i * 3 + 1, none⟩ (.int .i64 0) hat).setCell ⟨g, i * 3 + 2, none⟩ (.int .i64 0) hat)
          clear HO HF hat hns hnr
          go_wp2
          go_roundw
          case rel => exact ⟨i + 1, l.set i spRt, by omega, by go_num, HO2, HF2⟩
          case measure => simp [intOf]; omega
        · obtain rfl : i = rn := by omega
          have c8 := (HBX1.out.off HF.out hnr).cells.c8
          simp only at c8
          have hd2 := HD2.out _ _ HR1.out HDD.out HF.out
          have HB2 : Hid (Below B w wr) := hid (HBL.out.trans (HF.out.below (fun j hj => HAR.out j hj) (by omega)))
          have hB2 : B ≤ wr.heap.size := by have := HB2.out.size; omega
          have cO := owned_ow hd2 ht hB2
          clear hd2 HD2 HR1 HDD HO HF
          go_wp2_with (first
            | (go_at_call 36; refine cO.mono ?_; rintro e w3 ⟨rfl, hb3⟩; have HB3 := hid (HB2.out.trans hb3); clear hb3))
          go_end0
          exact ⟨rfl, HB3.out⟩
set_option maxHeartbeats 1000000 in
theorem objects_ps (ao : Option Addr) (n cap : Nat) (l : List Spn) (bo : Option Addr) (c : Nat) (w : World) (h : Ps w ao n cap l) (g : Ps w bo n c l) (hn : n ≤ 9223372036854775807) :
    Calls Tryz.prog 16 #[.slice ao n cap, .slice bo n c] w fun e w' => e = .returned (.bool true) ∧ Below w.heap.size w w' := by
  go_enter Tryz.func16, Tryz.ntmps16
  go_wp2
  go_loopw [5] (fun t wr => ∃ k : Nat, k ≤ n ∧ t = .int .i64 k ∧ Below w.heap.size w wr) (fun t _ => n - (intOf t).toNat)
  case atStart => exact ⟨0, Nat.zero_le _, rfl, Below.refl _ _⟩
  case round =>
    obtain ⟨k, hk, rfl, hb⟩ := hrel
    by_cases hlt : k < n
    · obtain ⟨b1, o1, rfl, _, _⟩ := h.here (by omega)
      obtain ⟨b2, o2, rfl, _, _⟩ := g.here (by omega)
      obtain ⟨c0, c1⟩ := h.at hb hlt
      obtain ⟨d0, d1⟩ := g.at hb hlt
      have hki : (k : Int) < (n : Int) := by omega
      generalize pa l k = s at *
      clear h g
      obtain ⟨p, z⟩ := s
      simp only at c0 c1 d0 d1
      go_wp2
      go_quiet (fail)
      go_wp2
      go_roundw
      case rel => exact ⟨k + 1, by omega, by go_num, below_drewN hb _⟩
      case measure => simp [intOf]; omega
    · obtain rfl : k = n := by omega
      go_wp2
      go_ret
      exact ⟨rfl, hb⟩
end Go.Proofs.YtpbljjbhfhfmgaaGreatDoor
/- joistref18.Copy by its contract. -/
namespace Go.Proofs.YtpbljjbhfhfmgaaGreatDoor
set_option maxRecDepth 100000
open Go.RowKit
set_option linter.unusedVariables false
set_option linter.unusedSimpArgs false
set_option maxRecDepth 100000

theorem BxT.under {B : Nat} {w w' : World} {b : Nat} {v : StV} {x : Stt} (h : BxT w b v x) (hb : Below B w w') (hl : b < B) : BxT w' b v x := (hb.block b hl).trans h
/-- What lies from B on is left alone. -/
theorem OwT.up {B : Nat} {W W' : World} {ao : Option Addr} {n c : Nat} {l : List Slt} (h : OwT B W ao n c l) (ho : Off (fun j => j < B) W W') : OwT B W' ao n c l := h.off ho (fun x hx hf => by
  have := (h.row.lt x.block (by rw [hx]; rfl)).1
  omega)
theorem OwR.up {B : Nat} {W W' : World} {ao : Option Addr} {n c : Nat} {l : List Rt} (h : OwR B W ao n c l) (ho : Off (fun j => j < B) W W') : OwR B W' ao n c l := h.off ho (fun x hx hf => by
  have := (h.row.lt x.block (by rw [hx]; rfl)).1
  omega)
theorem OwRw.up {B : Nat} {W W' : World} {ao : Option Addr} {n c : Nat} {A : Nat → Option Addr} {N C : Nat → Nat} {ds : List (List Int)} (h : OwRw B W ao n c A N C ds) (ho : Off (fun j => j < B) W W') : OwRw B W' ao n c A N C ds := by
  refine ⟨h.len, rows_off h.row ho (fun g hg hf => ?_), fun i hi => (h.own i hi).off ho (fun x hx hf => ?_), h.apart⟩
  · have := (h.row.lt g hg).1
    omega
  · have := ((h.own i hi).row.lt x.block (by rw [hx]; rfl)).1
    omega
/-- What stands while the document copies a state: its box, the answer's block, the copy's. -/
structure CqT (w : World) (x : Stt) (W : World) (v v' : StV) : Prop where
  bx : BxT W w.heap.size v x
  zz : BxT W (w.heap.size + 1) zStV zSt
  yy : BxT W (w.heap.size + 1 + 1) v' x
  bl : Below w.heap.size w W
theorem CqT.lt {w : World} {x : Stt} {W : World} {v v' : StV} (h : CqT w x W v v') : w.heap.size + 1 + 1 + 1 ≤ W.heap.size := by have := h.yy.lt; omega
theorem CqT.call {w : World} {x : Stt} {W W' : World} {v v' : StV} (h : CqT w x W v v') (hb : Below (w.heap.size + 1 + 1 + 1) W W') : CqT w x W' v v' := ⟨h.bx.under hb (by omega), h.zz.under hb (by omega), h.yy.under hb (by omega), h.bl.trans (hb.mono (by omega))⟩
theorem CqT.st {w : World} {x : Stt} {W : World} {v v' v2 : StV} (h : CqT w x W v v') (i : Nat) (u : Value) (hy : BxT (W.setCell ⟨w.heap.size + 1 + 1, i, none⟩ u) (w.heap.size + 1 + 1) v2 x) : CqT w x (W.setCell ⟨w.heap.size + 1 + 1, i, none⟩ u) v v2 :=
  ⟨h.bx.off (F := fun j => j = w.heap.size + 1 + 1) ((Off.refl _ _).setCell _ _ rfl) (by omega), h.zz.off (F := fun j => j = w.heap.size + 1 + 1) ((Off.refl _ _).setCell _ _ rfl) (by omega), hy, h.bl.setCell (by simp; omega) _⟩
theorem one_off {b g i : Nat} {W : World} (u : Value) (h : g < b) : Off (fun j => j < b) W (W.setCell ⟨g, i, none⟩ u) := (Off.refl _ _).setCell _ _ h
theorem OwT.kept {w w' : World} {B : Nat} {ao : Option Addr} {n c : Nat} {l : List Slt} {B' : Nat} {e' : TypeId} {s' : Nat} {v' : Value} {n' : Nat} {xs' : List Value} (h : OwT B w ao n c l) (h' : w.ownsRow B' e' s' v' n' xs') (hne : 55 ≠ e') (hg : w.grownBy w' v'.ownBlock) : OwT B w' ao n c l := ⟨h.len, rows_kept h.row h' hne hg, h.rg⟩
theorem OwR.kept {w w' : World} {B : Nat} {ao : Option Addr} {n c : Nat} {l : List Rt} {B' : Nat} {e' : TypeId} {s' : Nat} {v' : Value} {n' : Nat} {xs' : List Value} (h : OwR B w ao n c l) (h' : w.ownsRow B' e' s' v' n' xs') (hne : 52 ≠ e') (hg : w.grownBy w' v'.ownBlock) : OwR B w' ao n c l := ⟨h.len, rows_kept h.row h' hne hg, h.rg⟩
theorem rows_byte {x : Int} {n : Nat} {da' : List (List Int)} (h : ∀ i, i < n → Bytes (da da' i)) : ∀ i, i < n → Bytes (da (da'.take n) i) := fun i hi => by
  have e : da (da'.take n) i = da da' i := by simp [da, List.getD, List.getElem?_take, hi]
  rw [e]; exact h i hi
/-- One row more of the copy. -/
theorem cq_row {w wr w2 w4 : World} {v v' : StV} {x : Stt} {B : Nat} {bo : Option Addr} {k c : Nat} {A' : Nat → Option Addr} {N' C' : Nat → Nat} {ds : List (List Int)} {d : List Int} {bo2 : Option Addr} {m2 c2 : Nat} {bo4 : Option Addr} {c4 : Nat} {so1 ro1 : Option Addr} {sn c1 rn c3 : Nat} {sl : List Slt} {rt : List Rt}
    (hB : B = w.heap.size + 1 + 1 + 1) (hq : CqT w x wr v v') (hs : OwT B wr so1 sn c1 sl) (hr : OwR B wr ro1 rn c3 rt) (hd : OwRw B wr bo k c A' N' C' ds)
    (hb2 : Below wr.heap.size wr w2) (ho2 : Own .u8 5 wr.heap.size w2 bo2 m2 c2 d)
    (hg4 : (w2.alloc (.cells #[.slice bo2 m2 c2] 48)).grownBy w4 (Value.slice bo k c).ownBlock) (ho4 : w4.ownsRow B 48 1 (.slice bo4 (k + 1) c4) (k + 1) ((List.range k).map (sliV A' N' C') ++ [.slice bo2 m2 c2])) :
    CqT w x w4 v v' ∧ OwT B w4 so1 sn c1 sl ∧ OwR B w4 ro1 rn c3 rt ∧ OwRw B w4 bo4 (k + 1) c4 (upd A' k bo2) (upd N' k m2) (upd C' k c2) (ds ++ [d]) ∧ Below B wr w4 := by
  have hlt := hq.lt
  have hb3 : Below wr.heap.size wr (w2.alloc (.cells #[.slice bo2 m2 c2] 48)) := hb2.alloc hb2.size _
  have hsz := hb3.size
  have hs3 := hs.below hb3
  have hr3 := hr.below hb3
  have hd3 := hd.below hb3
  have ho3 : Own .u8 5 B (w2.alloc (.cells #[.slice bo2 m2 c2] 48)) bo2 m2 c2 d := (ho2.mono (by omega)).below ((Below.refl _ _).alloc (Nat.le_refl _) _)
  have hb4 : Below B wr w4 := (hb3.mono (by omega)).grown hg4 (by omega) (fun j hj => (hd.row.lt j hj).1)
  refine ⟨hq.call (by rw [← hB]; exact hb4), hs3.kept hd3.row (by decide) hg4, hr3.kept hd3.row (by decide) hg4, hd.next hb3 ho3 (fun y hy => (ho2.row.lt y.block (by rw [hy]; rfl)).1) hg4 ho4, hb4⟩
theorem da_take {l : List (List Int)} {k : Nat} (h : k < l.length) : l.take k ++ [da l k] = l.take (k + 1) := by
  rw [List.take_add_one, List.getElem?_eq_getElem h]
  simp [da, List.getD, h]
set_option maxHeartbeats 16000000 in
theorem rcopyS_any (v : StV) (x : Stt) (w : World) (h : Sta w v x) (hs : v.sn ≤ 100000) (hr : v.rn ≤ 100000) (hd : v.tn ≤ 100000) (hN : ∀ i, i < v.tn → v.N i ≤ 140737488355328) :
    Calls Tryz.prog 7 #[.agg (stC v x)] w fun e w' => ∃ v', e = .returned (.agg (stC v' x)) ∧ Sta w' v' x ∧ Below w.heap.size w w' := by
  have hW0 : CqT w x (((w.alloc (.cells (stC v x) 28)).alloc (.cells (stC zStV zSt) 28)).alloc (.cells (stC v x) 28)) v v := by
    refine ⟨((bxT_new w v x).more _).more _, ?_, ?_, (((Below.refl _ _).alloc (Nat.le_refl _) _).alloc (by simp) _).alloc (by simp; omega) _⟩
    · have := (bxT_new (w.alloc (.cells (stC v x) 28)) zStV zSt).more (.cells (stC v x) 28)
      rwa [show (w.alloc (.cells (stC v x) 28)).heap.size = w.heap.size + 1 by simp] at this
    · have := bxT_new ((w.alloc (.cells (stC v x) 28)).alloc (.cells (stC zStV zSt) 28)) v x
      rwa [show ((w.alloc (.cells (stC v x) 28)).alloc (.cells (stC zStV zSt) 28)).heap.size = w.heap.size + 1 + 1 by simp] at this
  have hsz : (((w.alloc (.cells (stC v x) 28)).alloc (.cells (stC zStV zSt) 28)).alloc (.cells (stC v x) 28)).heap.size = w.heap.size + 1 + 1 + 1 := by simp
  have HG := hid (And.intro h.gh (And.intro h.gm h.gb))
  have hbT : ∀ i, i < v.tn → Bytes (da x.dt i) := h.d.bytes
  have HBT := hid hbT
  have HSl : Hid (∀ W, Below w.heap.size w W → Tb W v.so v.sn v.sc x.sl ∧ Rs W v.ro v.rn v.rc x.rt ∧ Rd W v.to v.tn v.tc v.A v.N v.C x.dt) := hid (fun W hb => ⟨h.s.below hb, h.r.below hb, h.d.below hb⟩)
  have hdl := h.d.len
  have HTR : Hid (0 < v.tn → ∃ b off, v.to = some ⟨b, off, none⟩ ∧ b < w.heap.size) := hid (fun e => by
    obtain ⟨b, off, e1, e2, _⟩ := h.d.here e
    exact ⟨b, off, e1, e2⟩)
  have HNN := hid hN
  clear h hN hbT
  obtain ⟨shp, md, bs, sl, rt, dt⟩ := x
  obtain ⟨so, sn, sc, ro, rn, rc, to, tn, tc, A, N, C⟩ := v
  simp only [stC, zStV, zSt] at *
  have hbs : (0 + sn) * 32 ≤ 140737488355328 := by omega
  have hbr : (0 + rn) * 32 ≤ 140737488355328 := by omega
  generalize hWW : ((w.alloc (.cells #[.int .i64 shp.pg, .int .i64 shp.sl, .int .i64 shp.rt, .int .i64 shp.rm, .int .i64 md, .int .i64 bs, .slice so sn sc, .slice ro rn rc, .slice to tn tc] 28)).alloc (.cells #[.int .i64 0, .int .i64 0, .int .i64 0, .int .i64 0, .int .i64 0, .int .i64 0, .slice none 0 0, .slice none 0 0, .slice none 0 0] 28)).alloc (.cells #[.int .i64 shp.pg, .int .i64 shp.sl, .int .i64 shp.rt, .int .i64 shp.rm, .int .i64 md, .int .i64 bs, .slice so sn sc, .slice ro rn rc, .slice to tn tc] 28) = W0 at *
  have HW0 := hid hW0
  have HWW := hid hWW
  have hbe : Below (w.heap.size + 1 + 1 + 1) W0 (W0.alloc (.cells #[] 55)) := by rw [← hsz]; exact (Below.refl _ _).alloc (Nat.le_refl _) _
  have hbl0 : Below w.heap.size w (W0.alloc (.cells #[] 55)) := hW0.bl.trans (hbe.mono (by omega))
  have HE1 : Hid ((W0.alloc (.cells #[] 55)).ownsRow (w.heap.size + 1 + 1 + 1) 55 5 (.slice (some ⟨w.heap.size + 1 + 1 + 1, 0, none⟩) 0 0) 0 (cellsT [])) := hid (by
    have := own_emptyT (w.heap.size + 1 + 1 + 1) W0 (by omega)
    rwa [hsz] at this)
  have HT1 := hid (HSl.out _ hbl0).1
  have hz1 : w.heap.size + 1 + 1 + 1 ≤ (W0.alloc (.cells #[] 55)).heap.size := by simp [hsz]
  have HBE := hid hbe
  clear hbe hbl0
  subst hWW
  clear hW0
  go_enter Tryz.func7, Tryz.ntmps7
  go_wp2_with (first
    | (at_builtin; refine append_tb rfl (.tmp 6) (.tmp 8) rfl (w.heap.size + 1 + 1 + 1) _ 0 [] rfl HE1.out (by intro x hx; cases hx) so sn sc sl rfl HT1.out hbs hz1 ?_))
  intro so1 c1 w1 ho1 hg1
  have b1 : Below (w.heap.size + 1 + 1 + 1) _ w1 := HBE.out.grown hg1 hz1 (by intro j hj; cases hj; exact Nat.le_refl _)
  have q1 := HW0.out.call b1
  have HS1 : Hid (OwT (w.heap.size + 1 + 1 + 1) w1 so1 sn c1 sl) := hid (by simpa using ho1)
  have hq1 := q1.st 6 (.slice so1 sn c1) (q1.yy.put6 so1 sn c1)
  have f6 := q1.yy.free 6
  obtain ⟨y0, y1, y2, y3, y4, y5, y6, y7, y8⟩ := q1.yy.cells
  simp only at y0 y1 y2 y3 y4 y5 y6 y7 y8
  have HQ1 := hid hq1
  have hlw1 := q1.lt
  have hS1 := HS1.out.up (one_off (g := w.heap.size + 1 + 1) (i := 6) (.slice so1 sn c1) (by omega))
  have hbe1 : Below w1.heap.size (w1.setCell ⟨w.heap.size + 1 + 1, 6, none⟩ (.slice so1 sn c1)) ((w1.setCell ⟨w.heap.size + 1 + 1, 6, none⟩ (.slice so1 sn c1)).alloc (.cells #[] 52)) := (Below.refl _ _).alloc (by simp) _
  have HE2 : Hid (((w1.setCell ⟨w.heap.size + 1 + 1, 6, none⟩ (.slice so1 sn c1)).alloc (.cells #[] 52)).ownsRow (w.heap.size + 1 + 1 + 1) 52 3 (.slice (some ⟨w1.heap.size, 0, none⟩) 0 0) 0 (cellsR [])) := hid (by
    have := own_emptyR (w.heap.size + 1 + 1 + 1) (w1.setCell ⟨w.heap.size + 1 + 1, 6, none⟩ (.slice so1 sn c1)) (by simp; omega)
    simpa using this)
  have HR1 := hid (HSl.out _ (hq1.bl.trans (hbe1.mono (by omega)))).2.1
  have HS2 := hid (hS1.below (by simpa using hbe1))
  have hz2 : w.heap.size + 1 + 1 + 1 ≤ ((w1.setCell ⟨w.heap.size + 1 + 1, 6, none⟩ (.slice so1 sn c1)).alloc (.cells #[] 52)).heap.size := by simp; omega
  have HBE1 := hid (hbe1.mono hlw1)
  obtain ⟨c0, c1', c2, c3, c4, c5, c6, c7, c8⟩ := (hq1.call HBE1.out).bx.cells
  simp only at c0 c1' c2 c3 c4 c5 c6 c7 c8
  clear ho1 hg1 b1 q1 hq1 hS1 hbe1 HBE HE1 HT1 HW0 HWW
  go_wp2_with (first
    | (at_builtin; refine append_rs rfl (.tmp 11) (.tmp 13) rfl (w.heap.size + 1 + 1 + 1) _ 0 [] rfl HE2.out (by intro x hx; cases hx) ro rn rc rt rfl HR1.out hbr hz2 ?_))
  intro ro1 c3' w2 ho2 hg2
  have b2 := HBE1.out.grown hg2 hz2 (by intro j hj; cases hj; exact hlw1)
  have q2 := HQ1.out.call b2
  have hS2 := HS2.out.kept HE2.out (by decide) hg2
  have HR2 : Hid (OwR (w.heap.size + 1 + 1 + 1) w2 ro1 rn c3' rt) := hid (by simpa using ho2)
  have f7 := q2.yy.free 7
  have hq3 := q2.st 7 (.slice ro1 rn c3') (q2.yy.put7 ro1 rn c3')
  have f8 := hq3.yy.free 8
  have hq4 := hq3.st 8 (.slice none 0 0) (hq3.yy.put8 none 0 0 (fun _ => none) (fun _ => 0) (fun _ => 0))
  have hS4 := (hS2.up (one_off (g := w.heap.size + 1 + 1) (i := 7) (.slice ro1 rn c3') (by omega))).up (one_off (g := w.heap.size + 1 + 1) (i := 8) (.slice none 0 0) (by omega))
  have hR4 := (HR2.out.up (one_off (g := w.heap.size + 1 + 1) (i := 7) (.slice ro1 rn c3') (by omega))).up (one_off (g := w.heap.size + 1 + 1) (i := 8) (.slice none 0 0) (by omega))
  clear y0 y1 y2 y3 y4 y5 y6 y7 y8 c0 c1' c2 c3 c4 c5 c6 c7 c8
  obtain ⟨y0, y1, y2, y3, y4, y5, y6, y7, y8⟩ := q2.yy.cells
  simp only at y0 y1 y2 y3 y4 y5 y6 y7 y8 f7 f8
  have HQ4 := hid hq4
  have HS4 := hid hS4
  have HR4 := hid hR4
  clear ho2 hg2 b2 q2 hS2 hq3 hq4 hS4 hR4 HE2 HR1 HS2 hz2 HBE1 HQ1 HR2 f6 HS1
  go_wp2
  generalize (w2.setCell ⟨w.heap.size + 1 + 1, 7, none⟩ (.slice ro1 rn c3')).setCell ⟨w.heap.size + 1 + 1, 8, none⟩ (.slice none 0 0) = W4 at *
  clear y0 y1 y2 y3 y4 y5 y6 y7 y8 f7 f8
  go_loopw [4] (fun s4 wr => ∃ (k : Nat) (bo : Option Addr) (c : Nat) (A' : Nat → Option Addr) (N' C' : Nat → Nat), k ≤ tn ∧ s4 = .int .i64 k ∧ Hid (CqT w ⟨shp, md, bs, sl, rt, dt⟩ wr ⟨so, sn, sc, ro, rn, rc, to, tn, tc, A, N, C⟩ ⟨so1, sn, c1, ro1, rn, c3', bo, k, c, A', N', C'⟩) ∧ Hid (OwT (w.heap.size + 1 + 1 + 1) wr so1 sn c1 sl) ∧ Hid (OwR (w.heap.size + 1 + 1 + 1) wr ro1 rn c3' rt) ∧ Hid (OwRw (w.heap.size + 1 + 1 + 1) wr bo k c A' N' C' (dt.take k))) (fun s4 _ => tn - (intOf s4).toNat)
  case atStart => exact ⟨0, none, 0, _, _, _, Nat.zero_le _, rfl, HQ4, HS4, HR4, hid (owRw_nil _ _ _ _ _)⟩
  case round =>
    clear HQ4 HS4 HR4
    obtain ⟨k, bo, c, A', N', C', hk, rfl, HQ, HS, HR, HD⟩ := hrel
    have hlt3 := HQ.out.lt
    by_cases hlt : k < tn
    · have hki : (k : Int) < (tn : Int) := by omega
      obtain ⟨tb, tof, rfl, htb⟩ := HTR.out (by omega)
      have HDT : Hid (dt.take k ++ [da dt k] = dt.take (k + 1)) := hid (da_take (by omega))
      have hk24 : (k + 1) * 24 ≤ 140737488355328 := by omega
      have hn8 : 0 + N k ≤ 140737488355328 := by have := HNN.out k hlt; omega
      have HKS : Hid (∀ W, Below (w.heap.size + 1 + 1 + 1) wr W → (W.cell? ⟨w.heap.size, 8, none⟩ = some (.slice (some ⟨tb, tof, none⟩) tn tc) ∧ W.cell? ⟨tb, tof + k, none⟩ = some (.slice (A k) (N k) (C k))) ∧ W.cell? ⟨w.heap.size + 1 + 1, 8, none⟩ = some (.slice bo k c)) := hid (fun W hb => by
        have hq := HQ.out.call hb
        refine ⟨⟨hq.bx.cells.c8, ?_⟩, hq.yy.cells.c8⟩
        exact (hb.cell (p := ⟨tb, tof + k, none⟩) (by show tb < _; omega)).trans ((HSl.out wr HQ.out.bl).2.2.cell (Below.refl _ _) hlt))
      have hbA : Below wr.heap.size wr (wr.alloc (.cells #[] 5)).drew := ((Below.refl _ _).alloc (Nat.le_refl _) _).drew
      have c8 := (HKS.out wr (Below.refl _ _)).1.1
      obtain ⟨k1, k1a⟩ := HKS.out wr.drew (Below.refl _ _).drew
      obtain ⟨k2, k2a⟩ := HKS.out _ (hbA.mono hlt3)
      have HE : Hid ((wr.alloc (.cells #[] 5)).drew.ownsRow wr.heap.size 5 1 (.slice (some ⟨wr.heap.size, 0, none⟩) 0 0) 0 (([] : List Int).map (Value.int .u8))) := hid (World.ownsRow_made wr #[] 0 (Nat.le_refl _) (Nat.zero_le _) rfl)
      have HSL : Hid (Sl .u8 (wr.alloc (.cells #[] 5)).drew (A k) (N k) (C k) (da dt k)) := hid (((HSl.out wr HQ.out.bl).2.2.row k hlt).below hbA)
      have hB8 : wr.heap.size ≤ (wr.alloc (.cells #[] 5)).drew.heap.size := hbA.size
      have HAP : Hid (∀ w2 bo2 c2, Own .u8 5 wr.heap.size w2 bo2 (0 + N k) c2 ([] ++ da dt k) → (wr.alloc (.cells #[] 5)).drew.grownBy w2 (Value.slice (some ⟨wr.heap.size, 0, none⟩) 0 0).ownBlock → Below wr.heap.size wr w2 ∧ Own .u8 5 wr.heap.size w2 bo2 (N k) c2 (da dt k)) := hid (fun w2 bo2 c2 ho hg => ⟨hbA.grown hg hB8 (by intro j hj; cases hj; exact Nat.le_refl _), by simpa using ho⟩)
      have hBw : w.heap.size + 1 + 1 + 1 ≤ wr.heap.size := hlt3
      have HRW : Hid (∀ W, Below wr.heap.size wr W → W.ownsRow (w.heap.size + 1 + 1 + 1) 48 1 (.slice bo k c) k ((List.range k).map (sliV A' N' C'))) := hid (fun W hb => (HD.out.below hb).row)
      have HST : Hid (∀ w2 w4 bo2 c2 bo4 c4, Below wr.heap.size wr w2 → Own .u8 5 wr.heap.size w2 bo2 (N k) c2 (da dt k) → (w2.alloc (.cells #[.slice bo2 (N k) c2] 48)).grownBy w4 (Value.slice bo k c).ownBlock → w4.ownsRow (w.heap.size + 1 + 1 + 1) 48 1 (.slice bo4 (k + 1) c4) (k + 1) ((List.range k).map (sliV A' N' C') ++ [.slice bo2 (N k) c2]) → CqT w ⟨shp, md, bs, sl, rt, dt⟩ w4 ⟨so, sn, sc, ro, rn, rc, some ⟨tb, tof, none⟩, tn, tc, A, N, C⟩ ⟨so1, sn, c1, ro1, rn, c3', bo, k, c, A', N', C'⟩ ∧ OwT (w.heap.size + 1 + 1 + 1) w4 so1 sn c1 sl ∧ OwR (w.heap.size + 1 + 1 + 1) w4 ro1 rn c3' rt ∧ OwRw (w.heap.size + 1 + 1 + 1) w4 bo4 (k + 1) c4 (upd A' k bo2) (upd N' k (N k)) (upd C' k c2) (dt.take k ++ [da dt k]) ∧ Below (w.heap.size + 1 + 1 + 1) wr w4) := hid (fun w2 w4 bo2 c2 bo4 c4 hb2 ho2 hg4 ho4 => cq_row rfl HQ.out HS.out HR.out HD.out hb2 ho2 hg4 ho4)
      have HKT : Hid (∀ W, Below (w.heap.size + 1 + 1 + 1) wr W → ∀ v, (W.setCell ⟨w.heap.size + 1 + 1, 8, none⟩ v).cell? ⟨w.heap.size, 8, none⟩ = some (.slice (some ⟨tb, tof, none⟩) tn tc) ∧ (W.setCell ⟨w.heap.size + 1 + 1, 8, none⟩ v).cell? ⟨tb, tof + k, none⟩ = some (.slice (A k) (N k) (C k))) := hid (fun W hb v => by
        obtain ⟨⟨h1, h2⟩, _⟩ := HKS.out W hb
        rw [World.cell?_setCell_other, World.cell?_setCell_other]
        · exact ⟨h1, h2⟩
        · intro e; simp only [Addr.mk.injEq] at e; omega
        · intro e; simp only [Addr.mk.injEq] at e; omega)
      clear HSl HTR HNN HBT HG hbA HQ HS HR HD
      go_wp2_with fail
      refine wp_region_held_drew (S := fun w' => w'.cell? ⟨w.heap.size, 8, none⟩ = some (.slice (some ⟨tb, tof, none⟩) tn tc) ∧ w'.cell? ⟨tb, tof + k, none⟩ = some (.slice (A k) (N k) (C k))) (by kernel_rfl) k1 (fun hH => ?_)
      refine wpAnyH_take (i := 0) (v := ?_) (List.getElem?_toArray.trans rfl) (by kernel_rfl) (by kernel_rfl) (by kernel_rfl) (fun _ _ _ h => h) (Or.inl ⟨by rfl, ?_⟩) (by assumption) ?_
      rotate_left
      · (intro w hSw; obtain ⟨hS1, hS2⟩ := hSw; go_simp; try (with_reducible rfl))
      simp only [Act.put, List.setIfInBounds_toArray, List.set_cons_zero, List.set_cons_succ]
      refine wpAnyH_take (i := 3) (v := ?_) (List.getElem?_toArray.trans rfl) (by kernel_rfl) (by kernel_rfl) (by kernel_rfl) (fun _ _ _ h => h) (Or.inl ⟨by rfl, ?_⟩) (by assumption) ?_
      rotate_left
      · (intro w hSw; obtain ⟨hS1, hS2⟩ := hSw; go_simp; try (with_reducible rfl))
      simp only [Act.put, List.setIfInBounds_toArray, List.set_cons_zero, List.set_cons_succ]
      refine wpAnyH_take (i := 4) (v := ?_) (List.getElem?_toArray.trans rfl) (by kernel_rfl) (by kernel_rfl) (by kernel_rfl) (fun _ _ _ h => h) (Or.inl ⟨by rfl, ?_⟩) (by assumption) ?_
      rotate_left
      · (intro w hSw; obtain ⟨hS1, hS2⟩ := hSw; go_simp; try (with_reducible rfl))
      simp only [Act.put, List.setIfInBounds_toArray, List.set_cons_zero, List.set_cons_succ]
      refine wpAnyH_take (i := 5) (v := ?_) (List.getElem?_toArray.trans rfl) (by kernel_rfl) (by kernel_rfl) (by kernel_rfl) (fun _ _ _ h => h) (Or.inl ⟨by rfl, ?_⟩) (by assumption) ?_
      rotate_left
      · (intro w hSw; obtain ⟨hS1, hS2⟩ := hSw; go_simp; try (with_reducible rfl))
      simp only [Act.put, List.setIfInBounds_toArray, List.set_cons_zero, List.set_cons_succ]
      refine wpAnyH_take (i := 6) (v := ?_) (List.getElem?_toArray.trans rfl) (by kernel_rfl) (by kernel_rfl) (by kernel_rfl) (fun _ _ _ h => h) (Or.inl ⟨by rfl, ?_⟩) (by assumption) ?_
      rotate_left
      · (intro w hSw; obtain ⟨hS1, hS2⟩ := hSw; go_simp; try (with_reducible rfl))
      simp only [Act.put, List.setIfInBounds_toArray, List.set_cons_zero, List.set_cons_succ]
      refine wpAnyH_take (i := 7) (v := ?_) (List.getElem?_toArray.trans rfl) (by kernel_rfl) (by kernel_rfl) (by kernel_rfl) (fun _ _ _ h => h) (Or.inl ⟨by rfl, ?_⟩) (by assumption) ?_
      rotate_left
      · (intro w hSw; obtain ⟨hS1, hS2⟩ := hSw; go_simp; try (with_reducible rfl))
      simp only [Act.put, List.setIfInBounds_toArray, List.set_cons_zero, List.set_cons_succ]
      refine wpAnyH_ready (rs := [1, 2]) (by kernel_rfl) (by simp) ?_
      refine AllReadyH.cons (List.getElem?_toArray.trans rfl) (fun K1 hK1 => ?_) (AllReadyH.cons (List.getElem?_toArray.trans rfl) (fun K1 hK1 => ?_) AllReadyH.nil)
      · go_simp
        refine hK1.out _ _ k1 (fun hHeld1 => ?_)
        clear hK1 K1
        refine wpAnyH_ready (rs := [2]) (by kernel_rfl) (by simp) ?_
        refine AllReadyH.cons (List.getElem?_toArray.trans rfl) (fun K2 hK2 => ?_) AllReadyH.nil
        go_simp
        refine hK2.out _ _ k2 (fun hHeld2 => ?_)
        clear hK2 K2
        refine wpAnyH_ready (rs := [8]) (by kernel_rfl) (by simp) ?_
        refine AllReadyH.cons (List.getElem?_toArray.trans rfl) (fun K3 hK3 => ?_) AllReadyH.nil
        refine step_append_u8 rfl (.tmp 26) (.tmp 31) rfl wr.heap.size (.slice (some ⟨wr.heap.size, 0, none⟩) 0 0) 0 [] rfl HE.out (A k) (N k) (C k) (da dt k) rfl HSL.out hn8 hB8 ?_
        intro bo2 c2 w2 ho2 hg2
        obtain ⟨b2, o2⟩ := HAP.out w2 bo2 c2 ho2 hg2
        obtain ⟨⟨e1, e2⟩, e3⟩ := HKS.out w2 (b2.mono hBw)
        obtain ⟨⟨f1, f2⟩, f3⟩ := HKS.out (w2.alloc (.cells #[.slice bo2 (N k) c2] 48)) ((b2.alloc b2.size _).mono hBw)
        have HB2 := hid b2
        have HO2 := hid o2
        have hone : (w2.alloc (.cells #[.slice bo2 (N k) c2] 48)).cell? ⟨w2.heap.size, 0, none⟩ = some (.slice bo2 (N k) c2) := by rw [cell_of_row _ w2.heap.size 0 _ 48 (0, 0) (heap_alloc_new w2 _)]; rfl
        have hrow := HRW.out (w2.alloc (.cells #[.slice bo2 (N k) c2] 48)) (b2.alloc b2.size _)
        have HROW := hid hrow
        have HONE := hid hone
        have hBz : w.heap.size + 1 + 1 + 1 ≤ (w2.alloc (.cells #[.slice bo2 (N k) c2] 48)).heap.size := by have := (b2.alloc b2.size (.cells #[.slice bo2 (N k) c2] 48)).size; omega
        have HBZ := hid hBz
        clear ho2 hg2 b2 o2 hone hrow hBz
        refine hK3.out _ _ ⟨e1, e2⟩ (fun hHeld3 => ?_)
        clear hK3 K3
        simp only [Nat.zero_add, Act.put, List.setIfInBounds_toArray, List.set_cons_zero, List.set_cons_succ]
        refine wpAnyH_ready (rs := [9]) (by kernel_rfl) (by simp) ?_
        refine AllReadyH.cons (List.getElem?_toArray.trans rfl) (fun K4 hK4 => ?_) AllReadyH.nil
        go_simp
        refine hK4.out _ _ ⟨f1, f2⟩ (fun hHeld4 => ?_)
        clear hK4 K4
        refine wpAnyH_ready (rs := [10]) (by kernel_rfl) (by simp) ?_
        refine AllReadyH.cons (List.getElem?_toArray.trans rfl) (fun K5 hK5 => ?_) AllReadyH.nil
        refine step_append_row1 rfl (.tmp 25) (.tmp 33) rfl (w.heap.size + 1 + 1 + 1) (.slice bo k c) k ((List.range k).map (sliV A' N' C')) rfl HROW.out w2.heap.size bo2 (N k) c2 rfl HONE.out hk24 HBZ.out ?_
        intro bo4 c4 w4 ho4 hg4
        obtain ⟨m1, m2, m3, m4, m5⟩ := HST.out w2 w4 bo2 c2 bo4 c4 HB2.out HO2.out hg4 ho4
        obtain ⟨⟨g1, g2⟩, g3⟩ := HKS.out w4 m5
        have g4 := HKT.out w4 m5 (.slice bo4 (k + 1) c4)
        have g5 := m1.yy.free 8
        have HM1 := hid m1
        have HM2 := hid m2
        have HM3 := hid m3
        have HM4 := hid m4
        clear ho4 hg4 m1 m2 m3 m4 m5
        refine hK5.out _ _ ⟨g1, g2⟩ (fun hHeld5 => ?_)
        clear hK5 K5
        simp only [Nat.zero_add, Act.put, List.setIfInBounds_toArray, List.set_cons_zero, List.set_cons_succ]
        refine wpAnyH_take (i := 11) (v := ?_) (List.getElem?_toArray.trans rfl) (by kernel_rfl) (by kernel_rfl) (by kernel_rfl) (fun _ _ _ h => h) (Or.inl ⟨by rfl, ?_⟩) (by assumption) ?_
        rotate_left
        · (intro w hSw; obtain ⟨hS1, hS2⟩ := hSw; go_simp; try (with_reducible rfl))
        simp only [Act.put, List.setIfInBounds_toArray, List.set_cons_zero, List.set_cons_succ]
        refine wpAnyH_ready (rs := [12]) (by kernel_rfl) (by simp) ?_
        refine AllReadyH.cons (List.getElem?_toArray.trans rfl) (fun K6 hK6 => ?_) AllReadyH.nil
        go_simp
        refine hK6.out _ _ g4 (fun hHeld6 => ?_)
        clear hK6 K6
        refine wpAnyH_done (by kernel_rfl) ?_ _
        clear hH g1 g2 g3 g4 f1 f2 f3 e1 e2 e3 k2 k2a k1 HKS HKT HST HRW HAP HE HSL HROW HONE
        have HY := hid (HM1.out.st 8 (.slice bo4 (k + 1) c4) (HM1.out.yy.put8 bo4 (k + 1) c4 (upd A' k bo2) (upd N' k (N k)) (upd C' k c2)))
        have HS2 := hid (HM2.out.up (one_off (g := w.heap.size + 1 + 1) (i := 8) (.slice bo4 (k + 1) c4) (by omega)))
        have HR2 := hid (HM3.out.up (one_off (g := w.heap.size + 1 + 1) (i := 8) (.slice bo4 (k + 1) c4) (by omega)))
        have HD2 := hid (HM4.out.up (one_off (g := w.heap.size + 1 + 1) (i := 8) (.slice bo4 (k + 1) c4) (by omega)))
        clear HM1 HM2 HM3 HM4
        go_wp2
        go_roundw
        case rel => exact ⟨k + 1, bo4, c4, upd A' k bo2, upd N' k (N k), upd C' k c2, by omega, by go_num, HY, HS2, HR2, by rw [← HDT.out]; exact HD2⟩
        case measure => simp [intOf]; omega
      · go_simp
        refine hK1.out _ _ k2 (fun hHeld1 => ?_)
        clear hK1 K1
        refine wpAnyH_ready (rs := [1, 8]) (by kernel_rfl) (by simp) ?_
        refine AllReadyH.cons (List.getElem?_toArray.trans rfl) (fun K2 hK2 => ?_) (AllReadyH.cons (List.getElem?_toArray.trans rfl) (fun K2 hK2 => ?_) AllReadyH.nil)
        · go_simp
          refine hK2.out _ _ k2 (fun hHeld2 => ?_)
          clear hK2 K2
          refine wpAnyH_ready (rs := [8]) (by kernel_rfl) (by simp) ?_
          refine AllReadyH.cons (List.getElem?_toArray.trans rfl) (fun K3 hK3 => ?_) AllReadyH.nil
          refine step_append_u8 rfl (.tmp 26) (.tmp 31) rfl wr.heap.size (.slice (some ⟨wr.heap.size, 0, none⟩) 0 0) 0 [] rfl HE.out (A k) (N k) (C k) (da dt k) rfl HSL.out hn8 hB8 ?_
          intro bo2 c2 w2 ho2 hg2
          obtain ⟨b2, o2⟩ := HAP.out w2 bo2 c2 ho2 hg2
          obtain ⟨⟨e1, e2⟩, e3⟩ := HKS.out w2 (b2.mono hBw)
          obtain ⟨⟨f1, f2⟩, f3⟩ := HKS.out (w2.alloc (.cells #[.slice bo2 (N k) c2] 48)) ((b2.alloc b2.size _).mono hBw)
          have HB2 := hid b2
          have HO2 := hid o2
          have hone : (w2.alloc (.cells #[.slice bo2 (N k) c2] 48)).cell? ⟨w2.heap.size, 0, none⟩ = some (.slice bo2 (N k) c2) := by rw [cell_of_row _ w2.heap.size 0 _ 48 (0, 0) (heap_alloc_new w2 _)]; rfl
          have hrow := HRW.out (w2.alloc (.cells #[.slice bo2 (N k) c2] 48)) (b2.alloc b2.size _)
          have HROW := hid hrow
          have HONE := hid hone
          have hBz : w.heap.size + 1 + 1 + 1 ≤ (w2.alloc (.cells #[.slice bo2 (N k) c2] 48)).heap.size := by have := (b2.alloc b2.size (.cells #[.slice bo2 (N k) c2] 48)).size; omega
          have HBZ := hid hBz
          clear ho2 hg2 b2 o2 hone hrow hBz
          refine hK3.out _ _ ⟨e1, e2⟩ (fun hHeld3 => ?_)
          clear hK3 K3
          simp only [Nat.zero_add, Act.put, List.setIfInBounds_toArray, List.set_cons_zero, List.set_cons_succ]
          refine wpAnyH_ready (rs := [9]) (by kernel_rfl) (by simp) ?_
          refine AllReadyH.cons (List.getElem?_toArray.trans rfl) (fun K4 hK4 => ?_) AllReadyH.nil
          go_simp
          refine hK4.out _ _ ⟨f1, f2⟩ (fun hHeld4 => ?_)
          clear hK4 K4
          refine wpAnyH_ready (rs := [10]) (by kernel_rfl) (by simp) ?_
          refine AllReadyH.cons (List.getElem?_toArray.trans rfl) (fun K5 hK5 => ?_) AllReadyH.nil
          refine step_append_row1 rfl (.tmp 25) (.tmp 33) rfl (w.heap.size + 1 + 1 + 1) (.slice bo k c) k ((List.range k).map (sliV A' N' C')) rfl HROW.out w2.heap.size bo2 (N k) c2 rfl HONE.out hk24 HBZ.out ?_
          intro bo4 c4 w4 ho4 hg4
          obtain ⟨m1, m2, m3, m4, m5⟩ := HST.out w2 w4 bo2 c2 bo4 c4 HB2.out HO2.out hg4 ho4
          obtain ⟨⟨g1, g2⟩, g3⟩ := HKS.out w4 m5
          have g4 := HKT.out w4 m5 (.slice bo4 (k + 1) c4)
          have g5 := m1.yy.free 8
          have HM1 := hid m1
          have HM2 := hid m2
          have HM3 := hid m3
          have HM4 := hid m4
          clear ho4 hg4 m1 m2 m3 m4 m5
          refine hK5.out _ _ ⟨g1, g2⟩ (fun hHeld5 => ?_)
          clear hK5 K5
          simp only [Nat.zero_add, Act.put, List.setIfInBounds_toArray, List.set_cons_zero, List.set_cons_succ]
          refine wpAnyH_take (i := 11) (v := ?_) (List.getElem?_toArray.trans rfl) (by kernel_rfl) (by kernel_rfl) (by kernel_rfl) (fun _ _ _ h => h) (Or.inl ⟨by rfl, ?_⟩) (by assumption) ?_
          rotate_left
          · (intro w hSw; obtain ⟨hS1, hS2⟩ := hSw; go_simp; try (with_reducible rfl))
          simp only [Act.put, List.setIfInBounds_toArray, List.set_cons_zero, List.set_cons_succ]
          refine wpAnyH_ready (rs := [12]) (by kernel_rfl) (by simp) ?_
          refine AllReadyH.cons (List.getElem?_toArray.trans rfl) (fun K6 hK6 => ?_) AllReadyH.nil
          go_simp
          refine hK6.out _ _ g4 (fun hHeld6 => ?_)
          clear hK6 K6
          refine wpAnyH_done (by kernel_rfl) ?_ _
          clear hH g1 g2 g3 g4 f1 f2 f3 e1 e2 e3 k2 k2a k1 HKS HKT HST HRW HAP HE HSL HROW HONE
          have HY := hid (HM1.out.st 8 (.slice bo4 (k + 1) c4) (HM1.out.yy.put8 bo4 (k + 1) c4 (upd A' k bo2) (upd N' k (N k)) (upd C' k c2)))
          have HS2 := hid (HM2.out.up (one_off (g := w.heap.size + 1 + 1) (i := 8) (.slice bo4 (k + 1) c4) (by omega)))
          have HR2 := hid (HM3.out.up (one_off (g := w.heap.size + 1 + 1) (i := 8) (.slice bo4 (k + 1) c4) (by omega)))
          have HD2 := hid (HM4.out.up (one_off (g := w.heap.size + 1 + 1) (i := 8) (.slice bo4 (k + 1) c4) (by omega)))
          clear HM1 HM2 HM3 HM4
          go_wp2
          go_roundw
          case rel => exact ⟨k + 1, bo4, c4, upd A' k bo2, upd N' k (N k), upd C' k c2, by omega, by go_num, HY, HS2, HR2, by rw [← HDT.out]; exact HD2⟩
          case measure => simp [intOf]; omega
        · refine step_append_u8 rfl (.tmp 26) (.tmp 31) rfl wr.heap.size (.slice (some ⟨wr.heap.size, 0, none⟩) 0 0) 0 [] rfl HE.out (A k) (N k) (C k) (da dt k) rfl HSL.out hn8 hB8 ?_
          intro bo2 c2 w2 ho2 hg2
          obtain ⟨b2, o2⟩ := HAP.out w2 bo2 c2 ho2 hg2
          obtain ⟨⟨e1, e2⟩, e3⟩ := HKS.out w2 (b2.mono hBw)
          obtain ⟨⟨f1, f2⟩, f3⟩ := HKS.out (w2.alloc (.cells #[.slice bo2 (N k) c2] 48)) ((b2.alloc b2.size _).mono hBw)
          have HB2 := hid b2
          have HO2 := hid o2
          have hone : (w2.alloc (.cells #[.slice bo2 (N k) c2] 48)).cell? ⟨w2.heap.size, 0, none⟩ = some (.slice bo2 (N k) c2) := by rw [cell_of_row _ w2.heap.size 0 _ 48 (0, 0) (heap_alloc_new w2 _)]; rfl
          have hrow := HRW.out (w2.alloc (.cells #[.slice bo2 (N k) c2] 48)) (b2.alloc b2.size _)
          have HROW := hid hrow
          have HONE := hid hone
          have hBz : w.heap.size + 1 + 1 + 1 ≤ (w2.alloc (.cells #[.slice bo2 (N k) c2] 48)).heap.size := by have := (b2.alloc b2.size (.cells #[.slice bo2 (N k) c2] 48)).size; omega
          have HBZ := hid hBz
          clear ho2 hg2 b2 o2 hone hrow hBz
          refine hK2.out _ _ ⟨e1, e2⟩ (fun hHeld2 => ?_)
          clear hK2 K2
          simp only [Nat.zero_add, Act.put, List.setIfInBounds_toArray, List.set_cons_zero, List.set_cons_succ]
          refine wpAnyH_ready (rs := [1, 9]) (by kernel_rfl) (by simp) ?_
          refine AllReadyH.cons (List.getElem?_toArray.trans rfl) (fun K3 hK3 => ?_) (AllReadyH.cons (List.getElem?_toArray.trans rfl) (fun K3 hK3 => ?_) AllReadyH.nil)
          · go_simp
            refine hK3.out _ _ ⟨e1, e2⟩ (fun hHeld3 => ?_)
            clear hK3 K3
            refine wpAnyH_ready (rs := [9]) (by kernel_rfl) (by simp) ?_
            refine AllReadyH.cons (List.getElem?_toArray.trans rfl) (fun K4 hK4 => ?_) AllReadyH.nil
            go_simp
            refine hK4.out _ _ ⟨f1, f2⟩ (fun hHeld4 => ?_)
            clear hK4 K4
            refine wpAnyH_ready (rs := [10]) (by kernel_rfl) (by simp) ?_
            refine AllReadyH.cons (List.getElem?_toArray.trans rfl) (fun K5 hK5 => ?_) AllReadyH.nil
            refine step_append_row1 rfl (.tmp 25) (.tmp 33) rfl (w.heap.size + 1 + 1 + 1) (.slice bo k c) k ((List.range k).map (sliV A' N' C')) rfl HROW.out w2.heap.size bo2 (N k) c2 rfl HONE.out hk24 HBZ.out ?_
            intro bo4 c4 w4 ho4 hg4
            obtain ⟨m1, m2, m3, m4, m5⟩ := HST.out w2 w4 bo2 c2 bo4 c4 HB2.out HO2.out hg4 ho4
            obtain ⟨⟨g1, g2⟩, g3⟩ := HKS.out w4 m5
            have g4 := HKT.out w4 m5 (.slice bo4 (k + 1) c4)
            have g5 := m1.yy.free 8
            have HM1 := hid m1
            have HM2 := hid m2
            have HM3 := hid m3
            have HM4 := hid m4
            clear ho4 hg4 m1 m2 m3 m4 m5
            refine hK5.out _ _ ⟨g1, g2⟩ (fun hHeld5 => ?_)
            clear hK5 K5
            simp only [Nat.zero_add, Act.put, List.setIfInBounds_toArray, List.set_cons_zero, List.set_cons_succ]
            refine wpAnyH_take (i := 11) (v := ?_) (List.getElem?_toArray.trans rfl) (by kernel_rfl) (by kernel_rfl) (by kernel_rfl) (fun _ _ _ h => h) (Or.inl ⟨by rfl, ?_⟩) (by assumption) ?_
            rotate_left
            · (intro w hSw; obtain ⟨hS1, hS2⟩ := hSw; go_simp; try (with_reducible rfl))
            simp only [Act.put, List.setIfInBounds_toArray, List.set_cons_zero, List.set_cons_succ]
            refine wpAnyH_ready (rs := [12]) (by kernel_rfl) (by simp) ?_
            refine AllReadyH.cons (List.getElem?_toArray.trans rfl) (fun K6 hK6 => ?_) AllReadyH.nil
            go_simp
            refine hK6.out _ _ g4 (fun hHeld6 => ?_)
            clear hK6 K6
            refine wpAnyH_done (by kernel_rfl) ?_ _
            clear hH g1 g2 g3 g4 f1 f2 f3 e1 e2 e3 k2 k2a k1 HKS HKT HST HRW HAP HE HSL HROW HONE
            have HY := hid (HM1.out.st 8 (.slice bo4 (k + 1) c4) (HM1.out.yy.put8 bo4 (k + 1) c4 (upd A' k bo2) (upd N' k (N k)) (upd C' k c2)))
            have HS2 := hid (HM2.out.up (one_off (g := w.heap.size + 1 + 1) (i := 8) (.slice bo4 (k + 1) c4) (by omega)))
            have HR2 := hid (HM3.out.up (one_off (g := w.heap.size + 1 + 1) (i := 8) (.slice bo4 (k + 1) c4) (by omega)))
            have HD2 := hid (HM4.out.up (one_off (g := w.heap.size + 1 + 1) (i := 8) (.slice bo4 (k + 1) c4) (by omega)))
            clear HM1 HM2 HM3 HM4
            go_wp2
            go_roundw
            case rel => exact ⟨k + 1, bo4, c4, upd A' k bo2, upd N' k (N k), upd C' k c2, by omega, by go_num, HY, HS2, HR2, by rw [← HDT.out]; exact HD2⟩
            case measure => simp [intOf]; omega
          · go_simp
            refine hK3.out _ _ ⟨f1, f2⟩ (fun hHeld3 => ?_)
            clear hK3 K3
            refine wpAnyH_ready (rs := [1]) (by kernel_rfl) (by simp) ?_
            refine AllReadyH.cons (List.getElem?_toArray.trans rfl) (fun K4 hK4 => ?_) AllReadyH.nil
            go_simp
            refine hK4.out _ _ ⟨f1, f2⟩ (fun hHeld4 => ?_)
            clear hK4 K4
            refine wpAnyH_ready (rs := [10]) (by kernel_rfl) (by simp) ?_
            refine AllReadyH.cons (List.getElem?_toArray.trans rfl) (fun K5 hK5 => ?_) AllReadyH.nil
            refine step_append_row1 rfl (.tmp 25) (.tmp 33) rfl (w.heap.size + 1 + 1 + 1) (.slice bo k c) k ((List.range k).map (sliV A' N' C')) rfl HROW.out w2.heap.size bo2 (N k) c2 rfl HONE.out hk24 HBZ.out ?_
            intro bo4 c4 w4 ho4 hg4
            obtain ⟨m1, m2, m3, m4, m5⟩ := HST.out w2 w4 bo2 c2 bo4 c4 HB2.out HO2.out hg4 ho4
            obtain ⟨⟨g1, g2⟩, g3⟩ := HKS.out w4 m5
            have g4 := HKT.out w4 m5 (.slice bo4 (k + 1) c4)
            have g5 := m1.yy.free 8
            have HM1 := hid m1
            have HM2 := hid m2
            have HM3 := hid m3
            have HM4 := hid m4
            clear ho4 hg4 m1 m2 m3 m4 m5
            refine hK5.out _ _ ⟨g1, g2⟩ (fun hHeld5 => ?_)
            clear hK5 K5
            simp only [Nat.zero_add, Act.put, List.setIfInBounds_toArray, List.set_cons_zero, List.set_cons_succ]
            refine wpAnyH_take (i := 11) (v := ?_) (List.getElem?_toArray.trans rfl) (by kernel_rfl) (by kernel_rfl) (by kernel_rfl) (fun _ _ _ h => h) (Or.inl ⟨by rfl, ?_⟩) (by assumption) ?_
            rotate_left
            · (intro w hSw; obtain ⟨hS1, hS2⟩ := hSw; go_simp; try (with_reducible rfl))
            simp only [Act.put, List.setIfInBounds_toArray, List.set_cons_zero, List.set_cons_succ]
            refine wpAnyH_ready (rs := [12]) (by kernel_rfl) (by simp) ?_
            refine AllReadyH.cons (List.getElem?_toArray.trans rfl) (fun K6 hK6 => ?_) AllReadyH.nil
            go_simp
            refine hK6.out _ _ g4 (fun hHeld6 => ?_)
            clear hK6 K6
            refine wpAnyH_done (by kernel_rfl) ?_ _
            clear hH g1 g2 g3 g4 f1 f2 f3 e1 e2 e3 k2 k2a k1 HKS HKT HST HRW HAP HE HSL HROW HONE
            have HY := hid (HM1.out.st 8 (.slice bo4 (k + 1) c4) (HM1.out.yy.put8 bo4 (k + 1) c4 (upd A' k bo2) (upd N' k (N k)) (upd C' k c2)))
            have HS2 := hid (HM2.out.up (one_off (g := w.heap.size + 1 + 1) (i := 8) (.slice bo4 (k + 1) c4) (by omega)))
            have HR2 := hid (HM3.out.up (one_off (g := w.heap.size + 1 + 1) (i := 8) (.slice bo4 (k + 1) c4) (by omega)))
            have HD2 := hid (HM4.out.up (one_off (g := w.heap.size + 1 + 1) (i := 8) (.slice bo4 (k + 1) c4) (by omega)))
            clear HM1 HM2 HM3 HM4
            go_wp2
            go_roundw
            case rel => exact ⟨k + 1, bo4, c4, upd A' k bo2, upd N' k (N k), upd C' k c2, by omega, by go_num, HY, HS2, HR2, by rw [← HDT.out]; exact HD2⟩
            case measure => simp [intOf]; omega
    · obtain rfl : k = tn := by omega
      have hki : ¬ ((k : Int) < (k : Int)) := by omega
      have hD' := HD.out
      rw [List.take_of_length_le (by omega)] at hD'
      obtain ⟨c0, c1', c2, c3, c4, c5, c6, c7, c8⟩ := HQ.out.bx.cells
      obtain ⟨y0, y1, y2, y3, y4, y5, y6, y7, y8⟩ := HQ.out.yy.cells
      obtain ⟨z0, z1, z2, z3, z4, z5, z6, z7, z8⟩ := HQ.out.zz.cells
      simp only [zStV, zSt] at c8 y0 y1 y2 y3 y4 y5 y6 y7 y8 z0 z1 z2 z3 z4 z5 z6 z7 z8
      have g0 := HQ.out.zz.free 0
      have g1 := HQ.out.zz.free 1
      have g2 := HQ.out.zz.free 2
      have g3 := HQ.out.zz.free 3
      have g4 := HQ.out.zz.free 4
      have g5 := HQ.out.zz.free 5
      have g6 := HQ.out.zz.free 6
      have g7 := HQ.out.zz.free 7
      have g8 := HQ.out.zz.free 8
      have hn9 := nine_off wr (w.heap.size + 1) (.int .i64 shp.pg) (.int .i64 shp.sl) (.int .i64 shp.rt) (.int .i64 shp.rm) (.int .i64 md) (.int .i64 bs) (.slice so1 sn c1) (.slice ro1 rn c3') (.slice bo k c)
      have hup := Off.mono (F' := fun j => j < w.heap.size + 1 + 1 + 1) hn9 (fun j hj _ => by omega)
      have HFIN : Hid (Sta (((((((((wr.setCell ⟨w.heap.size + 1, 0, none⟩ (.int .i64 shp.pg)).setCell ⟨w.heap.size + 1, 1, none⟩ (.int .i64 shp.sl)).setCell ⟨w.heap.size + 1, 2, none⟩ (.int .i64 shp.rt)).setCell ⟨w.heap.size + 1, 3, none⟩ (.int .i64 shp.rm)).setCell ⟨w.heap.size + 1, 4, none⟩ (.int .i64 md)).setCell ⟨w.heap.size + 1, 5, none⟩ (.int .i64 bs)).setCell ⟨w.heap.size + 1, 6, none⟩ (.slice so1 sn c1)).setCell ⟨w.heap.size + 1, 7, none⟩ (.slice ro1 rn c3')).setCell ⟨w.heap.size + 1, 8, none⟩ (.slice bo k c)) ⟨so1, sn, c1, ro1, rn, c3', bo, k, c, A', N', C'⟩ ⟨shp, md, bs, sl, rt, dt⟩) := hid ⟨(HS.out.up hup).tb, (HR.out.up hup).rs, (hD'.up hup : OwRw _ _ _ _ _ _ _ _ _).rd HBT.out, HG.out.1, HG.out.2.1, HG.out.2.2⟩
      have HBL : Hid (Below w.heap.size w _) := hid (HQ.out.bl.trans (hn9.below (fun j hj => by omega) HQ.out.bl.size))
      clear HQ HS HR HD hD' HBT HG HSl HTR HNN hn9 hup
      go_wp2
      refine bodyPost_ret (v := .agg #[.int .i64 shp.pg, .int .i64 shp.sl, .int .i64 shp.rt, .int .i64 shp.rm, .int .i64 md, .int .i64 bs, .slice so1 sn c1, .slice ro1 rn c3', .slice bo k c]) (by simp [results, Tryz.results7, go_sem, z0, z1, z2, z3, z4, z5, z6, z7, z8]) rfl ⟨⟨so1, sn, c1, ro1, rn, c3', bo, k, c, A', N', C'⟩, rfl, HFIN.out, HBL.out⟩
end Go.Proofs.YtpbljjbhfhfmgaaGreatDoor
