/- TagP · DatS · TagQ: these texts, one behind another. -/
import Derived.Test.YtpbljjbhfhfmgaaGreatDoorMxRowed
import Derived.Test.YtpbljjbhfhfmgaaGreatDoorMxTabA
import Derived.Test.YtpbljjbhfhfmgaaGreatDoorMxLent
import Derived.Deep.QuietTactic
import Derived.BigQuiet
import Derived.Test.YtpbljjbhfhfmgaaGreatDoorMxHandM
/- Rows of bytes that are lent; rows handed to joistlaw01.Owned. -/
namespace Go.Proofs.YtpbljjbhfhfmgaaGreatDoor
set_option maxRecDepth 100000
open Go.RowKit
set_option linter.unusedVariables false
set_option linter.unusedSimpArgs false
set_option maxRecDepth 100000

/-- 'append(s, x...)' of rows of bytes: s of the call's own, or nil; x can be read, or nil. -/
theorem append_rows {w : World} {ops : Array Oper} {rest : List Oper} {o : Oper} {a : Act} {Q : Exit → Act → World → Prop} (hgd : o.guard = none) (s x : Operand)
    (ho : o.op = .call { callee := .builtin .append, args := #[s, x], argTypes := #[26, 26] })
    (B : Nat) (v : Value) (n : Nat) (vs : List Value) (hs : a.eval s = v) (hown : w.ownsRow B 48 1 v n vs)
    (xo : Option Addr) (m c : Nat) (us : List Value) (hx : a.eval x = .slice xo m c) (hul : us.length = m) (hus : ∀ ad, xo = some ad → ∀ j u, us[j]? = some u → w.cell? (ad.add j) = some u) (hno : xo = none → m = 0 ∧ c = 0) (hone : ∀ u ∈ us, u.oneCell' = true) (hb : (n + m) * 24 ≤ 140737488355328) (hB : B ≤ w.heap.size)
    (h : ∀ bo c' w', w'.ownsRow B 48 1 (.slice bo (n + m) c') (n + m) (vs ++ us) → w.grownBy w' v.ownBlock → wpList Tryz.prog ops Q rest (a.put o.dst (.slice bo (n + m) c')) w') : wpList Tryz.prog ops Q (o :: rest) a w := by
  obtain ⟨i0, hi, hz0, hz1, hz2⟩ := info_parts Tryz.info48
  cases xo with
  | none =>
    obtain ⟨rfl, rfl⟩ := hno rfl
    have hz : us = [] := List.eq_nil_of_length_eq_zero hul
    subst hz
    obtain ⟨bo, c', rfl⟩ := own_slice hown
    refine wpList_append_own_none hgd s x 26 ho B 48 i0 1 Tryz.underlying26 hi _ n _ hs hown hx ?_
    have := h bo c' w (by simpa using hown) (World.grownBy.refl _ _)
    simpa using this
  | some ad =>
    refine wpList_append_own _ hgd s x 26 ho B 48 i0 (.slice none 0 0) 1 24 Tryz.underlying26 hi hz0 hz1 hz2 rfl (by decide) v n _ hs hown ad m c us hx (by omega) (hus ad rfl) hone (by unfold maxLen; omega) (by omega) hB ?_
    intro v' w' hown' hgrow hnil
    obtain ⟨bo, c', rfl⟩ := own_slice hown'
    exact h bo c' w' hown' hgrow
theorem rows_far {w : World} {B : Nat} {bo : Option Addr} {n c : Nat} {vs : List Value} (h : w.ownsRow B 48 1 (.slice bo n c) n vs) {a : Addr} (ha : bo = some a) {g : Nat} {cur : Array Value} {fl : Nat × Nat} (hg : w.heap[g]? = some (.cells cur 5 fl)) : g ≠ a.block := by
  intro e
  rcases h.2 with ⟨hv, _⟩ | ⟨g', cap', cur', hv, _, hh, _⟩
  · rw [ha] at hv; simp at hv
  · rw [ha] at hv
    simp only [Value.slice.injEq, Option.some.injEq] at hv
    rw [hv.1] at e
    simp only at e
    rw [← e, hg] at hh
    simp at hh
theorem Lentd.grown {w w' : World} {g : Nat} {zs : List Int} (h : Lentd w g zs) {row : Option Nat} (hg : w.grownBy w' row) (hne : some g ≠ row) : Lentd w' g zs := by
  have := h.lt
  unfold Lentd at h ⊢
  rw [hg.block g this hne]
  exact h
/-- Lent rows, in a row of the call's own. -/
def rowV (N G : Nat → Nat) (i : Nat) : Value := .slice (some ⟨G i, 0, none⟩) (N i) (N i + 1)
def rowsV (N G : Nat → Nat) (k : Nat) : List Value := (List.range k).map (rowV N G)
theorem rowsV_len (N G : Nat → Nat) (k : Nat) : (rowsV N G k).length = k := by simp [rowsV]
theorem rowsV_at {N G : Nat → Nat} {k i : Nat} (h : i < k) : (rowsV N G k)[i]? = some (rowV N G i) := by simp [rowsV, h]
theorem rowsV_one (N G : Nat → Nat) (k : Nat) : ∀ u ∈ rowsV N G k, u.oneCell' = true := by
  intro u hu
  obtain ⟨i, _, rfl⟩ := List.mem_map.1 hu
  rfl
theorem rowsV_next {N G : Nat → Nat} {k g : Nat} : rowsV N (upd G k g) (k + 1) = rowsV N G k ++ [.slice (some ⟨g, 0, none⟩) (N k) (N k + 1)] := by
  unfold rowsV
  rw [List.range_succ, List.map_append]
  congr 1
  · refine List.map_congr_left fun i hi => ?_
    have : i ≠ k := by have := List.mem_range.1 hi; omega
    simp [rowV, upd_other _ _ _ this]
  · simp [rowV, upd_same]
structure LnD (B : Nat) (w : World) (ao : Option Addr) (k cap : Nat) (N G : Nat → Nat) (ds : List (List Int)) : Prop where
  row : w.ownsRow B 48 1 (.slice ao k cap) k (rowsV N G k)
  lent : ∀ i, i < k → Lentd w (G i) (da ds i)
  up : ∀ i, i < k → B ≤ G i
  apart : ∀ i j, i < j → j < k → G i ≠ G j
  len : ∀ i, i < k → (da ds i).length = N i
theorem lnD_nil (B : Nat) (w : World) (N G : Nat → Nat) (ds : List (List Int)) : LnD B w none 0 0 N G ds := ⟨World.ownsRow_nil _ _ _ _, fun i h => absurd h (by omega), fun i h => absurd h (by omega), fun i j _ h => absurd h (by omega), fun i h => absurd h (by omega)⟩
theorem LnD.below {B : Nat} {w w' : World} {ao : Option Addr} {k cap : Nat} {N G : Nat → Nat} {ds : List (List Int)} (h : LnD B w ao k cap N G ds) (hb : Below w.heap.size w w') : LnD B w' ao k cap N G ds := ⟨ownsRow_below h.row hb, fun i hi => (h.lent i hi).below hb, h.up, h.apart, h.len⟩
theorem LnD.next {B : Nat} {wr w2 w3 : World} {ao bo : Option Addr} {k cap c' : Nat} {N G : Nat → Nat} {ds : List (List Int)} (h : LnD B wr ao k cap N G ds) (hb : Below wr.heap.size wr w2) (hl : Lentd w2 wr.heap.size (da ds k)) (hN : (da ds k).length = N k) (hB : B ≤ wr.heap.size)
    (hg : w2.grownBy w3 (Value.slice ao k cap).ownBlock) (ho : w3.ownsRow B 48 1 (.slice bo (k + 1) c') (k + 1) (rowsV N G k ++ [.slice (some ⟨wr.heap.size, 0, none⟩) (N k) (N k + 1)])) : LnD B w3 bo (k + 1) c' N (upd G k wr.heap.size) ds := by
  have hr2 := ownsRow_below h.row hb
  have hne : ∀ g zs, Lentd w2 g zs → some g ≠ (Value.slice ao k cap).ownBlock := fun g zs hl e => by
    cases ao with
    | none => cases e
    | some a => exact rows_far hr2 rfl hl (by simpa [Value.ownBlock] using e)
  refine ⟨by rw [rowsV_next]; exact ho, fun i hi => ?_, fun i hi => ?_, fun i j hij hj => ?_, fun i hi => ?_⟩
  · by_cases e : i = k
    · subst e
      rw [upd_same]
      exact hl.grown hg (hne _ _ hl)
    · rw [upd_other _ _ _ e]
      have := (h.lent i (by omega)).below hb
      exact this.grown hg (hne _ _ this)
  · by_cases e : i = k
    · subst e
      rw [upd_same]
      exact hB
    · rw [upd_other _ _ _ e]
      exact h.up i (by omega)
  · by_cases e : j = k
    · subst e
      rw [upd_same, upd_other _ _ _ (by omega)]
      have := (h.lent i (by omega)).lt
      omega
    · rw [upd_other _ _ _ e, upd_other _ _ _ (by omega)]
      exact h.apart i j hij (by omega)
  · by_cases e : i = k
    · subst e
      exact hN
    · exact h.len i (by omega)
theorem LnD.shape {B : Nat} {w : World} {ao : Option Addr} {k cap : Nat} {N G : Nat → Nat} {ds : List (List Int)} (h : LnD B w ao k cap N G ds) (hk : 0 < k) : ∃ g, ao = some ⟨g, 0, none⟩ := by
  obtain ⟨g, c, e⟩ := own_shape h.row hk
  simp only [Value.slice.injEq] at e
  exact ⟨g, e.1⟩
theorem LnD.rd {B : Nat} {w : World} {ao : Option Addr} {k cap : Nat} {N G : Nat → Nat} {ds : List (List Int)} (h : LnD B w ao k cap N G ds) (hl : ds.length = k) (hb : ∀ i, i < k → Bytes (da ds i)) (hN : ∀ i, i < k → N i ≤ 4096) : Rd w ao k cap (fun i => some ⟨G i, 0, none⟩) N (fun i => N i + 1) ds := by
  have hc : k ≤ cap ∧ (ao = none → cap = 0) := by
    rcases h.row.2 with ⟨hv, hn⟩ | ⟨g', cap', cur, hv, hg, hh, hc, _⟩
    · simp only [Value.slice.injEq] at hv
      exact ⟨by omega, fun _ => hv.2.2⟩
    · simp only [Value.slice.injEq] at hv
      obtain ⟨rfl, _, rfl⟩ := hv
      exact ⟨hc, fun e => by cases e⟩
  refine ⟨hl, hc.1, hc.2, fun hn => ?_, fun i hi => (h.lent i hi).sl (h.len i hi), hb, fun i hi => by have := hN i hi; omega⟩
  obtain ⟨g, rfl⟩ := h.shape hn
  refine ⟨g, 0, rfl, (h.row.lt g rfl).2, fun i hi => ?_⟩
  rw [Nat.zero_add, h.row.cellAt i (by omega), rowsV_at hi]
  rfl
/-- Nothing but the rows themselves turns: rows with spare room behind them. -/
theorem owned_cap {F : Nat → Prop} (R B L : Nat) (ao : Nat → Option Addr) (n c g : Nat → Nat) (w : World) (hr : Rws B L ao n c g) (hs : Stage w R L ao n c g 0 0) (hL : L ≤ 200) (cc : Nat) (hcc : L ≤ cc) (hcc2 : cc ≤ 9223372036854775807) (hF : ∀ i, i < L → 0 < c i → F (g i)) :
    Calls Tryz.prog 36 #[.slice (some ⟨R, 0, none⟩) L cc] w fun e w' => e = .returned (.bool true) ∧ Off F w w' ∧ ∀ t, t < L → 0 < c t → ∃ cur : Array Value, w'.heap[g t]? = some (.cells cur 5 (0, 0)) ∧ cur.size = c t := by
  go_enter Tryz.func36, Tryz.ntmps36
  go_wp2
  go_loopw [3] (fun t wr => ∃ i : Nat, i ≤ L ∧ t = .int .i64 i ∧ Stage wr R L ao n c g i 0 ∧ Off F w wr) (fun t _ => L - (intOf t).toNat)
  case atStart => exact ⟨0, Nat.zero_le _, rfl, hs, Off.refl _ _⟩
  case round =>
    obtain ⟨i, hi, rfl, hst, hb⟩ := hrel
    by_cases hlt : i < L
    · have hcell := hst.1 i hlt
      obtain ⟨hf1, hf2⟩ := hr.fits i hlt
      generalize hA : ao i = A at *
      generalize hN : n i = N at *
      have hii : (i : Int) < (L : Int) := by omega
      go_wp2
      go_quiet (fail)
      go_wp2
      have hst' := hst.drewN nq
      have hb' := hb.drewN nq
      have hspot := hr.spot i hlt
      rw [hA] at hspot
      have HT : Hid (Stage (wr.drewN nq) R L ao n c g i 0) := hst'
      clear hst hst' hcell
      generalize hC : c i = C at *
      go_loopw [5] (fun t w2 => ∃ k : Nat, k ≤ C ∧ t = .int .i64 k ∧ Stage w2 R L ao n c g i k ∧ Off F w w2) (fun t _ => C - (intOf t).toNat)
      case atStart => exact ⟨0, Nat.zero_le _, rfl, HT.out, hb'⟩
      case round =>
        obtain ⟨k, hk, rfl, ht, hbk⟩ := hrel
        by_cases hkt : k < C
        · obtain ⟨rfl, hgB⟩ := hspot (by omega)
          have hfill := ht.2.1 i hlt (by omega)
          obtain ⟨u, hcu⟩ := hfill.cell k (by omega)
          have hfr := hfill.free k
          have HS : Hid (Stage (wr.setCell ⟨g i, k, none⟩ (.int .u8 ((i : Int) + 1))) R L ao n c g i (k + 1)) := ht.step hr hlt (by omega)
          clear ht hfill
          go_wp2
          go_roundw
          case rel => exact ⟨k + 1, by omega, by go_num, HS.out, hbk.setCell _ _ (hF i hlt (by omega))⟩
          case measure => simp [intOf]; omega
        · obtain rfl : k = C := by omega
          subst hC
          go_wp2
          go_roundw
          case rel => exact ⟨i + 1, by omega, by go_num, ht.turn, hbk⟩
          case measure => simp [intOf]; omega
    · obtain rfl : i = L := by omega
      go_wp2
      go_loopw [6] (fun t w2 => ∃ j : Nat, j ≤ i ∧ t = .int .i64 j ∧ Stage w2 R i ao n c g i 0 ∧ Off F w w2) (fun t _ => i - (intOf t).toNat)
      case atStart => exact ⟨0, Nat.zero_le _, rfl, hst, hb⟩
      case round =>
        clear hst hb hs
        obtain ⟨j, hj, rfl, hst, hb⟩ := hrel
        by_cases hjt : j < i
        · have hcell := hst.1 j hjt
          obtain ⟨hf1, hf2⟩ := hr.fits j hjt
          have hfull : 0 < c j → Fill wr (g j) (c j) ((j : Int) + 1) (c j) := fun h => by have := hst.2.1 j hjt h; rwa [if_pos hjt] at this
          have hspot := hr.spot j hjt
          generalize ao j = A at *
          generalize n j = N at *
          have hii : (j : Int) < (i : Int) := by omega
          have HT : Hid (Stage wr R i ao n c g i 0) := hst
          clear hst
          go_wp2
          go_quiet (fail)
          have HT' : Hid (Stage (wr.drewN nq) R i ao n c g i 0) := HT.out.drewN nq
          have hb' := hb.drewN nq
          go_wp2
          go_loop [8] (fun t => ∃ k : Nat, k ≤ c j ∧ t = .int .i64 k) (fun t => c j - (intOf t).toNat)
          case atStart => exact ⟨0, Nat.zero_le _, rfl⟩
          case round =>
            obtain ⟨k, hk, rfl⟩ := hrel
            by_cases hkt : k < c j
            · obtain ⟨rfl, _⟩ := hspot (by omega)
              have hcu := (hfull (by omega)).full k hkt
              clear hfull
              go_wp2
              go_round
              case rel => exact ⟨k + 1, by omega, by go_num⟩
              case measure => simp [intOf]; omega
            · obtain rfl : k = c j := by omega
              go_wp2
              go_roundw
              case rel => exact ⟨j + 1, by omega, by go_num, HT'.out, hb'⟩
              case measure => simp [intOf]; omega
        · go_wp2
          go_ret
          exact ⟨rfl, hb, fun t ht hc => by
            obtain ⟨cur, h1, h2, _⟩ := hst.2.1 t ht hc
            exact ⟨cur, h1, h2⟩⟩
end Go.Proofs.YtpbljjbhfhfmgaaGreatDoor
/- Rows of bytes of the call's own, one behind another. -/
namespace Go.Proofs.YtpbljjbhfhfmgaaGreatDoor
set_option maxRecDepth 100000
open Go.RowKit
set_option linter.unusedVariables false
set_option linter.unusedSimpArgs false
set_option maxRecDepth 100000

theorem Own.grown {B : Nat} {w w' : World} {ao : Option Addr} {n c : Nat} {zs : List Int} (h : Own .u8 5 B w ao n c zs) {row : Option Nat} (hg : w.grownBy w' row) (hne : ∀ a, ao = some a → some a.block ≠ row) : Own .u8 5 B w' ao n c zs := by
  refine ⟨h.len, h.row.kept hg ?_⟩
  cases ao with
  | none => exact Or.inl rfl
  | some a => exact Or.inr (hne a rfl)
theorem own_far2 {B B' : Nat} {w : World} {ao bo : Option Addr} {n c n' c' : Nat} {zs : List Int} {vs : List Value} (h : Own .u8 5 B w ao n c zs) (h' : w.ownsRow B' 48 1 (.slice bo n' c') n' vs) : ∀ a, ao = some a → some a.block ≠ (Value.slice bo n' c').ownBlock := fun a e e2 => by
  cases bo with
  | none => cases e2
  | some b =>
    rcases h.row.2 with ⟨hv, _⟩ | ⟨g', cap', cur', hv, _, hh, _⟩
    · rw [e] at hv; simp at hv
    · rw [e] at hv
      simp only [Value.slice.injEq, Option.some.injEq] at hv
      have := rows_far h' rfl hh
      rw [hv.1] at e2
      simp [Value.ownBlock] at e2
      exact this e2
def sliV (A : Nat → Option Addr) (N C : Nat → Nat) (i : Nat) : Value := .slice (A i) (N i) (C i)
/-- Rows of bytes of the call's own, in a row of the call's own. -/
structure OwRw (B : Nat) (w : World) (ao : Option Addr) (k cap : Nat) (A : Nat → Option Addr) (N C : Nat → Nat) (ds : List (List Int)) : Prop where
  len : ds.length = k
  row : w.ownsRow B 48 1 (.slice ao k cap) k ((List.range k).map (sliV A N C))
  own : ∀ i, i < k → Own .u8 5 B w (A i) (N i) (C i) (da ds i)
  apart : ∀ i j, i < j → j < k → ∀ a b, A i = some a → A j = some b → a.block ≠ b.block
theorem owRw_nil (B : Nat) (w : World) (A : Nat → Option Addr) (N C : Nat → Nat) : OwRw B w none 0 0 A N C [] := ⟨rfl, World.ownsRow_nil _ _ _ _, fun i h => absurd h (by omega), fun i j _ h => absurd h (by omega)⟩
theorem OwRw.below {B : Nat} {w w' : World} {ao : Option Addr} {k cap : Nat} {A : Nat → Option Addr} {N C : Nat → Nat} {ds : List (List Int)} (h : OwRw B w ao k cap A N C ds) (hb : Below w.heap.size w w') : OwRw B w' ao k cap A N C ds := ⟨h.len, ownsRow_below h.row hb, fun i hi => (h.own i hi).below hb, h.apart⟩
theorem OwRw.mono {B B' : Nat} {w : World} {ao : Option Addr} {k cap : Nat} {A : Nat → Option Addr} {N C : Nat → Nat} {ds : List (List Int)} (h : OwRw B w ao k cap A N C ds) (hB : B' ≤ B) : OwRw B' w ao k cap A N C ds := ⟨h.len, ownsRow_mono h.row hB, fun i hi => (h.own i hi).mono hB, h.apart⟩
theorem da_left {l : List (List Int)} {s : List Int} {i : Nat} (h : i < l.length) : da (l ++ [s]) i = da l i := by simp [da, List.getD, List.getElem?_append_left h]
theorem da_last {l : List (List Int)} {s : List Int} {i : Nat} (h : l.length = i) : da (l ++ [s]) i = s := by subst h; simp [da, List.getD]
theorem OwRw.next {B : Nat} {wr w2 w3 : World} {ao bo : Option Addr} {k cap c' : Nat} {A : Nat → Option Addr} {N C : Nat → Nat} {ds : List (List Int)} {d : List Int} {a : Option Addr} {m c : Nat} (h : OwRw B wr ao k cap A N C ds) (hb : Below wr.heap.size wr w2) (hl : Own .u8 5 B w2 a m c d) (hfr : ∀ x, a = some x → wr.heap.size ≤ x.block)
    (hg : w2.grownBy w3 (Value.slice ao k cap).ownBlock) (ho : w3.ownsRow B 48 1 (.slice bo (k + 1) c') (k + 1) ((List.range k).map (sliV A N C) ++ [.slice a m c])) : OwRw B w3 bo (k + 1) c' (upd A k a) (upd N k m) (upd C k c) (ds ++ [d]) := by
  have hr2 := ownsRow_below h.row hb
  have hlen := h.len
  refine ⟨by simp [hlen], ?_, fun i hi => ?_, fun i j hij hj x y ex ey => ?_⟩
  · have e : (List.range (k + 1)).map (sliV (upd A k a) (upd N k m) (upd C k c)) = (List.range k).map (sliV A N C) ++ [.slice a m c] := by
      rw [List.range_succ, List.map_append]
      congr 1
      · refine List.map_congr_left fun i hi => ?_
        have : i ≠ k := by have := List.mem_range.1 hi; omega
        simp [sliV, upd_other _ _ _ this]
      · simp [sliV, upd_same]
    rw [e]
    exact ho
  · by_cases e : i = k
    · subst e
      rw [upd_same, upd_same, upd_same, da_last hlen]
      exact hl.grown hg (own_far2 hl hr2)
    · rw [upd_other _ _ _ e, upd_other _ _ _ e, upd_other _ _ _ e, da_left (by omega)]
      have h1 := (h.own i (by omega)).below hb
      exact h1.grown hg (own_far2 h1 hr2)
  · have hold : ∀ i, i < k → ∀ b, A i = some b → b.block < wr.heap.size := fun i hi b e => ((h.own i hi).row.lt b.block (by rw [e]; rfl)).2
    by_cases e : j = k
    · subst e
      rw [upd_same] at ey
      rw [upd_other _ _ _ (by omega)] at ex
      have h1 := hold i (by omega) x ex
      have h2 := hfr y ey
      omega
    · rw [upd_other _ _ _ e] at ey
      rw [upd_other _ _ _ (by omega)] at ex
      exact h.apart i j hij (by omega) x y ex ey
theorem OwRw.rd {B : Nat} {w : World} {ao : Option Addr} {k cap : Nat} {A : Nat → Option Addr} {N C : Nat → Nat} {ds : List (List Int)} (h : OwRw B w ao k cap A N C ds) (hb : ∀ i, i < k → Bytes (da ds i)) : Rd w ao k cap A N C ds := by
  have hc : k ≤ cap ∧ (ao = none → cap = 0) := by
    rcases h.row.2 with ⟨hv, hn⟩ | ⟨g', cap', cur, hv, hg, hh, hc, _⟩
    · simp only [Value.slice.injEq] at hv
      exact ⟨by omega, fun _ => hv.2.2⟩
    · simp only [Value.slice.injEq] at hv
      obtain ⟨rfl, _, rfl⟩ := hv
      exact ⟨hc, fun e => by cases e⟩
  refine ⟨h.len, hc.1, hc.2, fun hn => ?_, fun i hi => (h.own i hi).sl, hb, fun i hi => (h.own i hi).cap_le.2⟩
  obtain ⟨g, c1, e⟩ := own_shape h.row hn
  simp only [Value.slice.injEq, true_and] at e
  obtain ⟨rfl, _⟩ := e
  refine ⟨g, 0, rfl, (h.row.lt g rfl).2, fun i hi => ?_⟩
  rw [Nat.zero_add, h.row.cellAt i (by omega)]
  simp [hi, sliV]
/-- Numbers are appended: the rows stay. -/
theorem OwRw.grown {B B' : Nat} {w w' : World} {ao : Option Addr} {k cap : Nat} {A : Nat → Option Addr} {N C : Nat → Nat} {ds : List (List Int)} {v : Value} {n : Nat} {xs : List Value} {t : TypeId} {s : Nat} (h : OwRw B w ao k cap A N C ds) (h' : w.ownsRow B' t s v n xs) (h1 : 48 ≠ t) (h2 : 5 ≠ t) (hg : w.grownBy w' v.ownBlock) : OwRw B w' ao k cap A N C ds :=
  ⟨h.len, h.row.kept hg (rows_diff h.row h' h1), fun i hi => ⟨(h.own i hi).len, (h.own i hi).row.kept hg (rows_diff (h.own i hi).row h' h2)⟩, h.apart⟩
/-- Rows are appended: numbers stay. -/
theorem Own.ints {B B' : Nat} {w w' : World} {ao : Option Addr} {n c : Nat} {zs : List Int} {v : Value} {m s : Nat} {xs : List Value} {t : TypeId} (h : Own .i64 3 B w ao n c zs) (h' : w.ownsRow B' t s v m xs) (h1 : 3 ≠ t) (hg : w.grownBy w' v.ownBlock) : Own .i64 3 B w' ao n c zs := ⟨h.len, h.row.kept hg (rows_diff h.row h' h1)⟩
theorem OwRw.cells {B : Nat} {w : World} {dt : Option Addr} {k dc : Nat} {A : Nat → Option Addr} {N C : Nat → Nat} {D : List (List Int)} (h : OwRw B w dt k dc A N C D) : ((List.range k).map (sliV A N C)).length = k ∧ (∀ ad, dt = some ad → ∀ j u, ((List.range k).map (sliV A N C))[j]? = some u → w.cell? (ad.add j) = some u) ∧ (dt = none → k = 0 ∧ dc = 0) ∧ ∀ u ∈ (List.range k).map (sliV A N C), u.oneCell' = true := by
  refine ⟨by simp, fun ad e j u hu => ?_, fun e => ?_, fun u hu => ?_⟩
  · have hj : j < k := by
      have := (List.getElem?_eq_some_iff.1 hu).1
      simpa using this
    obtain ⟨g, c1, hg⟩ := own_shape h.row (by omega)
    simp only [Value.slice.injEq, true_and] at hg
    have h1 := h.row
    rw [hg.1] at h1
    rw [e] at hg
    obtain ⟨hg, _⟩ := hg
    cases hg
    rw [Addr.add_lit, Nat.zero_add, h1.cellAt j (by omega)]
    exact hu
  · rcases h.row.2 with ⟨hv, hn⟩ | ⟨g', cap', cur, hv, _⟩
    · simp only [Value.slice.injEq] at hv
      exact ⟨hn, hv.2.2⟩
    · rw [e] at hv
      simp at hv
  · obtain ⟨i, _, rfl⟩ := List.mem_map.1 hu
    rfl
end Go.Proofs.YtpbljjbhfhfmgaaGreatDoor
/- Lent rows and one more, handed to joistlaw01.Owned. -/
namespace Go.Proofs.YtpbljjbhfhfmgaaGreatDoor
set_option maxRecDepth 100000
open Go.RowKit
set_option linter.unusedVariables false
set_option linter.unusedSimpArgs false
set_option maxRecDepth 100000

/-- Rows, each in a block of its own, in a row of the call's own. -/
theorem owned_rows {w : World} {B : Nat} {ro : Option Addr} {L cc : Nat} {vs : List Value} {A : Nat → Option Addr} {N C G : Nat → Nat} (hL0 : 0 < L) (hL : L ≤ 200) (hown : w.ownsRow B 48 1 (.slice ro L cc) L vs)
    (hvs : ∀ i, i < L → vs[i]? = some (.slice (A i) (N i) (C i))) (hr : ∀ i, i < L → Rowd w B (A i) (N i) (C i) (G i)) (hd : ∀ i j, i < j → j < L → 0 < C i → 0 < C j → G i ≠ G j) (hB : B ≤ w.heap.size) :
    Calls Tryz.prog 36 #[.slice ro L cc] w fun e w' => e = .returned (.bool true) ∧ Below B w w' := by
  obtain ⟨R, c1, e1⟩ := own_shape hown hL0
  simp only [Value.slice.injEq, true_and] at e1
  obtain ⟨rfl, rfl⟩ := e1
  have hcc : L ≤ cc ∧ cc ≤ 9223372036854775807 := by
    rcases hown.2 with ⟨hv, hn⟩ | ⟨g', cap', cur, hv, hg, hh, hc, hm, _⟩
    · cases hv
    · simp only [Value.slice.injEq] at hv
      obtain ⟨_, _, rfl⟩ := hv
      exact ⟨hc, by unfold maxLen at hm; omega⟩
  have hS : Rws B L A N C G ∧ Stage w R L A N C G 0 0 := by
    refine ⟨⟨fun i hi => (hr i hi).fits, fun i hi hc => ⟨((hr i hi).spot hc).1, ((hr i hi).spot hc).2.1⟩, fun i j hi hj hne h1 h2 => ?_⟩, fun j hj => ?_, fun j hj hc => ?_, fun j hj hc => ?_⟩
    · rcases Nat.lt_or_gt_of_ne hne with h | h
      · exact hd i j h hj h1 h2
      · exact (hd j i h hi h2 h1).symm
    · rw [hown.cellAt j (by omega)]
      exact hvs j hj
    · obtain ⟨cur, hg', hs⟩ := (hr j hj).fill hc
      refine ⟨cur, hg', hs, fun t ht => ?_⟩
      split at ht <;> first | omega | (split at ht <;> omega)
    · obtain ⟨cur, hg', hs⟩ := (hr j hj).fill hc
      exact rows_far hown rfl hg'
  exact (owned_cap (F := fun k => B ≤ k) R B L A N C G w hS.1 hS.2 hL cc hcc.1 hcc.2 (fun i hi hc => (hS.1.spot i hi hc).2)).mono fun _ _ ⟨h, k, _⟩ => ⟨h, k.below (fun _ h => h) hB⟩
theorem owned_lent {w : World} {B : Nat} {ro : Option Addr} {k cc : Nat} {N G : Nat → Nat} {ds : List (List Int)} {bo : Option Addr} {n c gb : Nat} (hk : k ≤ 100) (hown : w.ownsRow B 48 1 (.slice ro (k + 1) cc) (k + 1) (rowsV N G k ++ [.slice bo n c]))
    (hl : ∀ i, i < k → Lentd w (G i) (da ds i)) (hup : ∀ i, i < k → B ≤ G i) (hap : ∀ i j, i < j → j < k → G i ≠ G j) (hN : ∀ i, i < k → (da ds i).length = N i) (hN2 : ∀ i, i < k → N i ≤ 4096) (hr : Rowd w B bo n c gb) (hd : ∀ i, i < k → 0 < c → G i ≠ gb) (hB : B ≤ w.heap.size) :
    Calls Tryz.prog 36 #[.slice ro (k + 1) cc] w fun e w' => e = .returned (.bool true) ∧ Below B w w' := by
  refine owned_rows (A := upd (fun i => some ⟨G i, 0, none⟩) k bo) (N := upd N k n) (C := upd (fun i => N i + 1) k c) (G := upd G k gb) (by omega) (by omega) hown (fun i hi => ?_) (fun i hi => ?_) (fun i j hij hj h1 h2 => ?_) hB
  · by_cases e : i = k
    · subst e
      rw [upd_same, upd_same, upd_same, List.getElem?_append_right (by rw [rowsV_len]; omega), rowsV_len]
      simp
    · rw [upd_other _ _ _ e, upd_other _ _ _ e, upd_other _ _ _ e, List.getElem?_append_left (by rw [rowsV_len]; omega), rowsV_at (by omega)]
      rfl
  · by_cases e : i = k
    · subst e
      rw [upd_same, upd_same, upd_same, upd_same]
      exact hr
    · rw [upd_other _ _ _ e, upd_other _ _ _ e, upd_other _ _ _ e, upd_other _ _ _ e]
      exact ((hl i (by omega)).rowd (hN i (by omega)) (by have := hN2 i (by omega); omega)).mono (hup i (by omega))
  · by_cases e : j = k
    · subst e
      rw [upd_same] at h2
      rw [upd_same, upd_other _ _ _ (by omega)]
      exact hd i hij h2
    · rw [upd_other _ _ _ e, upd_other _ _ _ (by omega)]
      exact hap i j hij (by omega)
theorem LnD.cells {B : Nat} {w : World} {ao : Option Addr} {k cap : Nat} {N G : Nat → Nat} {ds : List (List Int)} (h : LnD B w ao k cap N G ds) : (∀ ad, ao = some ad → ∀ j u, (rowsV N G k)[j]? = some u → w.cell? (ad.add j) = some u) ∧ (ao = none → k = 0 ∧ cap = 0) := by
  refine ⟨fun ad e j u hu => ?_, fun e => ?_⟩
  · have hj : j < k := by
      have := (List.getElem?_eq_some_iff.1 hu).1
      rwa [rowsV_len] at this
    obtain ⟨g, hg⟩ := h.shape (by omega)
    have h1 := h.row
    rw [hg] at h1
    rw [e] at hg
    cases hg
    rw [Addr.add_lit, Nat.zero_add, h1.cellAt j (by omega)]
    exact hu
  · rcases h.row.2 with ⟨hv, hn⟩ | ⟨g', cap', cur, hv, _⟩
    · simp only [Value.slice.injEq] at hv
      exact ⟨hn, hv.2.2⟩
    · rw [e] at hv
      simp at hv
/-- One row more behind rows of the call's own. -/
theorem one_cell {w : World} (v : Value) : ∀ ad, some (⟨w.heap.size, 0, none⟩ : Addr) = some ad → ∀ j u, [v][j]? = some u → (w.alloc (.cells #[v] 48)).cell? (ad.add j) = some u := by
  intro ad e j u hu
  cases e
  match j, hu with
  | 0, hu => simp at hu; subst hu; simp [Addr.add_lit, cell_of_row _ w.heap.size 0 _ 48 (0, 0) (heap_alloc_new _ _)]
  | j + 1, hu => simp at hu
end Go.Proofs.YtpbljjbhfhfmgaaGreatDoor
