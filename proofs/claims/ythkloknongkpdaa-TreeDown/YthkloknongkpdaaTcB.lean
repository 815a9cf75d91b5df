/- tree.extentOf, pairsOf by their contracts. -/
import Derived.Test.YthkloknongkpdaaTcA
import Derived.Test.YthkloknongkpdaaTnR
namespace Go.Proofs.Ythkloknongkpdaa
set_option maxRecDepth 100000
open Go.RowKit
set_option linter.unusedVariables false
set_option linter.unusedSimpArgs false
set_option maxRecDepth 100000

theorem extentOf_any (a b : Int) (h0 : 0 ≤ b) (h1 : b ≤ 9223372036854775807) (w : World) :
    Calls Try.prog 36 #[.agg #[.int .i64 a, .int .i64 b]] w fun e w' => e = .returned (.agg #[.int .i64 a, .int .i64 (b / 4), .int .i64 (b % 4)]) ∧ Below w.heap.size w w' := by
  have x1 : Int.tdiv b 4 = b / 4 := Int.tdiv_eq_ediv_of_nonneg h0
  have x2 : IntKind.i64.wrap (b / 4) = b / 4 := IntWalk.i64_in _ ⟨by omega, by omega⟩
  have x3 : Int.tmod b 4 = b % 4 := Int.tmod_eq_emod_of_nonneg h0
  have HX := hid (bxX_new (w.alloc (.cells #[.int .i64 a, .int .i64 b] 68)) 0 0 0)
  have hb1 : Below w.heap.size w ((w.alloc (.cells #[.int .i64 a, .int .i64 b] 68)).alloc (.cells #[.int .i64 0, .int .i64 0, .int .i64 0] 42)) := ((Below.refl _ _).alloc (Nat.le_refl _) _).alloc (by simp) _
  generalize b / 4 = q at *
  generalize b % 4 = r at *
  obtain ⟨s0, s1, s2, _⟩ := (((HX.out.set0 a).set1 q).set2 r).cells
  go_enter Try.func36, Try.ntmps36
  go_wp2
  refine bodyPost_ret (v := .agg #[.int .i64 a, .int .i64 q, .int .i64 r]) (by simp [results, Try.results36, go_sem, s0, s1, s2]) rfl ⟨rfl, ?_⟩
  exact ((Below.refl _ _).alloc (Nat.le_refl _) _).alloc (by simp) _

theorem made_pairs (n : Nat) : (madeCells #[Value.int .i64 0, .int .i64 0] (n * 2)).toList = cellsP (List.replicate n Spn.z) := by
  apply List.ext_getElem?
  intro i
  by_cases hi : i < n * 2
  · have g2 := cellsP_get (List.replicate n Spn.z) (i := i / 2) (j := i % 2) (by rw [List.length_replicate]; omega) (Nat.mod_lt _ (by omega))
    rw [show i / 2 * 2 + i % 2 = i by omega] at g2
    have e : pa (List.replicate n Spn.z) (i / 2) = Spn.z := by
      simp only [pa, List.getD, List.getElem?_replicate]
      split <;> rfl
    rw [g2, e]
    rcases (show i % 2 = 0 ∨ i % 2 = 1 by omega) with e1 | e1 <;>
      simp [madeCells, hi, e1, Spn.cells, Spn.z]
  · rw [List.getElem?_eq_none (by simp [madeCells]; omega), List.getElem?_eq_none (by rw [cellsP_length, List.length_replicate]; omega)]
/-- The first k of them, zeros behind. -/
def tkZ (L : List Spn) (k : Nat) : List Spn := L.take k ++ List.replicate (L.length - k) Spn.z
theorem tkZ_zero (L : List Spn) : tkZ L 0 = List.replicate L.length Spn.z := by simp [tkZ]
theorem tkZ_all (L : List Spn) : tkZ L L.length = L := by simp [tkZ]
theorem tkZ_len {L : List Spn} {k : Nat} (h : k ≤ L.length) : (tkZ L k).length = L.length := by simp [tkZ]; omega
theorem tkZ_set {L : List Spn} {k : Nat} (h : k < L.length) : (tkZ L k).set k (pa L k) = tkZ L (k + 1) := by
  refine ext_pa (by rw [List.length_set, tkZ_len (by omega), tkZ_len (by omega)]) fun i hi => ?_
  rw [List.length_set, tkZ_len (by omega)] at hi
  have key : ∀ j i, j ≤ L.length → i < L.length → pa (tkZ L j) i = if i < j then pa L i else Spn.z := fun j i hj hi => by
    unfold tkZ
    simp only [pa, List.getD]
    by_cases c : i < j
    · rw [if_pos c, List.getElem?_append_left (by rw [List.length_take]; omega), List.getElem?_take, if_pos c]
    · rw [if_neg c, List.getElem?_append_right (by rw [List.length_take]; omega), List.getElem?_replicate]
      split <;> rfl
  by_cases e : k = i
  · subst e
    rw [pa_set_same _ _ _ (by rw [tkZ_len (by omega)]; exact h), key _ _ (by omega) hi, if_pos (by omega)]
  · rw [pa_set_other _ _ _ _ e, key _ _ (by omega) hi, key _ _ (by omega) hi]
    by_cases c : i < k
    · rw [if_pos c, if_pos (by omega)]
    · rw [if_neg c, if_neg (by omega)]
theorem lvP0_at {l : List Blk} {k : Nat} (h : k < l.length) : pa (lvP l 0) k = ⟨(ba l k).pos, 4 * (ba l k).sz + (ba l k).ix⟩ := by
  simp [pa, lvP, ba, List.getD, h]
theorem rgP_z : RgP Spn.z := ⟨by unfold Rg Spn.z; simp only; omega, by unfold Rg Spn.z; simp only; omega⟩
set_option maxHeartbeats 1000000 in
theorem pairsOf_bs {P : Int} (ao : Option Addr) (n cap : Nat) (l : List Blk) (w : World) (h : Bs w ao n cap l) (hR : RightX P l) :
    Calls Try.prog 42 #[.slice ao n cap] w fun e w' => e = .returned (.slice (some ⟨w.heap.size, 0, none⟩) n n) ∧ OwY w.heap.size w' (some ⟨w.heap.size, 0, none⟩) n n (lvP l 0) ∧ Below w.heap.size w w' := by
  obtain ⟨i0, hi, hz0, hz1, hz2⟩ := info_parts Try.info68
  have hl := h.len
  have h64 := hR.n64
  have hn : n ≤ 64 := by omega
  have HPL : Hid ((lvP l 0).length = n) := hid (by rw [lvP_len]; exact hl)
  have HX : Hid (∀ k, k < n → 0 ≤ (ba l k).pos ∧ (ba l k).pos ≤ 64 ∧ 1 ≤ (ba l k).sz ∧ (ba l k).sz ≤ 64 ∧ 0 ≤ (ba l k).ix ∧ (ba l k).ix ≤ 2) := hid (fun k hk => hR.ext (ba_mem (by omega)))
  clear hR
  go_enter Try.func42, Try.ntmps42
  go_wp2_with (at_make; refine wpList_make_full _ rfl _ _ 56 rfl w.heap.size 68 i0 (.agg #[.int .i64 0, .int .i64 0]) 2 Try.underlying56 hi hz0 hz1 .i64 .i64 _ _ n rfl rfl rfl rfl ?b2 ?b3 ?b4 ?_)
  case b2 => rw [hz2]; omega
  case b3 => unfold maxLen; omega
  case b4 => exact Nat.le_refl _
  intro w1 hown hgrow
  have HO : Hid (OwY w.heap.size w1 (some ⟨w.heap.size, 0, none⟩) n n (tkZ (lvP l 0) 0)) := hid ⟨by rw [tkZ_len (Nat.zero_le _)]; exact HPL.out, by rw [tkZ_zero, HPL.out, ← made_pairs]; exact hown, fun s hs => by rw [tkZ_zero] at hs; rw [(List.mem_replicate.1 hs).2]; exact rgP_z⟩
  have hbel : Below w.heap.size w w1 := (Below.refl _ _).grown hgrow (Nat.le_refl _) (by intro k hk; cases hk)
  clear hown hgrow hi hz0 hz1 hz2 i0
  go_wp2
  go_loopw [11] (fun s11 wr => ∃ k : Nat, k ≤ n ∧ s11 = .int .i64 k ∧ Hid (OwY w.heap.size wr (some ⟨w.heap.size, 0, none⟩) n n (tkZ (lvP l 0) k)) ∧ Below w.heap.size w wr ∧ w.heap.size < wr.heap.size) (fun s11 _ => n - (intOf s11).toNat)
  case atStart => exact ⟨0, Nat.zero_le _, rfl, HO, hbel, by
    rcases HO.out.row.2 with ⟨hv, _⟩ | ⟨g, cap', cur, hv, hg, hh, _⟩
    · cases hv
    · simp only [Value.slice.injEq, Option.some.injEq, Addr.mk.injEq, and_true] at hv
      rw [hv.1]
      exact (Array.getElem?_eq_some_iff.1 hh).1⟩
  case round =>
    obtain ⟨k, hk, rfl, HO1, hb, hsz⟩ := hrel
    by_cases hlt : k < n
    · obtain ⟨b, o, rfl, _, _⟩ := h.here (by omega)
      have hki : (k : Int) < (n : Int) := by omega
      obtain ⟨e0, e1, e2⟩ := h.at hb hlt
      obtain ⟨x0, x1, x2, x3, x4, x5⟩ := HX.out k hlt
      have HP := hid (lvP0_at (l := l) (k := k) (by omega))
      have HT := hid (tkZ_set (L := lvP l 0) (k := k) (by rw [HPL.out]; exact hlt))
      generalize ba l k = s at *
      obtain ⟨p, z, u⟩ := s
      simp only at e0 e1 e2 x0 x1 x2 x3 x4 x5 HP
      have y1 : IntKind.i64.wrap (4 * z) = 4 * z := IntWalk.i64_in _ ⟨by omega, by omega⟩
      have y2 : IntKind.i64.wrap (4 * z + u) = 4 * z + u := IntWalk.i64_in _ ⟨by omega, by omega⟩
      obtain ⟨c0, c1⟩ := HO1.out.ps.at (Below.refl _ _) hlt
      rw [Nat.zero_add] at c0 c1
      have f0 := HO1.out.free (k * 2)
      have f1 := HO1.out.free (k * 2 + 1)
      have hne : w.heap.size ≠ wr.heap.size := by omega
      have HS := hid ((HO1.out.set hlt (s := ⟨p, 4 * z + u⟩) ⟨by unfold Rg; simp only; omega, by unfold Rg; simp only; omega⟩).below ((Below.refl _ _).alloc (Nat.le_refl _) (.cells #[.int .i64 p, .int .i64 z, .int .i64 u] 42)))
      rw [← HP.out, HT.out] at HS
      rw [HP.out] at HS
      have HB3 : Hid (∀ o u v, Below w.heap.size w (((wr.setCell ⟨w.heap.size, k * 2, none⟩ u).setCell ⟨w.heap.size, k * 2 + 1, none⟩ v).alloc o)) := hid (fun o u v => (((hb.setCell (Nat.le_refl _) _).setCell (Nat.le_refl _) _).alloc (by simp [World.setCell]; omega) o))
      have HSZ : Hid (∀ o u v, w.heap.size < (((wr.setCell ⟨w.heap.size, k * 2, none⟩ u).setCell ⟨w.heap.size, k * 2 + 1, none⟩ v).alloc o).heap.size) := hid (fun o u v => by simp [World.setCell]; omega)
      clear HO HO1 h HX HP HT
      go_wp2
      go_roundw
      case rel => exact ⟨k + 1, by omega, by go_num, HS, HB3.out _ _ _, HSZ.out _ _ _⟩
      case measure => simp [intOf]; omega
    · obtain rfl : k = n := by omega
      have HO3 : Hid (OwY w.heap.size wr (some ⟨w.heap.size, 0, none⟩) k k (lvP l 0)) := hid (by have := HO1.out; rw [← HPL.out, tkZ_all] at this; rw [HPL.out] at this; exact this)
      clear HO HO1 HX h
      go_wp2
      go_ret
      exact ⟨rfl, HO3.out, hb⟩
end Go.Proofs.Ythkloknongkpdaa
