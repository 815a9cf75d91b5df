/- pmem's Image by its contract. -/
import Derived.Test.YtgiippbjieecmaaCrash
namespace Go.Proofs.Ytgiippbjieecmaa
set_option maxRecDepth 100000
open Go.RowKit Go.Maps

theorem own_up {k : IntKind} {e : TypeId} {B : Nat} {w : World} {g n cap : Nat} {zs : List Int} (h : Own k e 0 w (some ⟨g, 0, none⟩) n cap zs) (hB : B ≤ g) : Own k e B w (some ⟨g, 0, none⟩) n cap zs := by
  refine ⟨h.len, h.row.1, ?_⟩
  rcases h.row.2 with hn | ⟨g', cap', cur, hv, hg, r⟩
  · exact Or.inl hn
  · have e1 : g = g' := by simp only [Value.slice.injEq, Option.some.injEq, Addr.mk.injEq, and_true] at hv; exact hv.1
    subst e1
    exact Or.inr ⟨g, cap', cur, hv, hB, r⟩
theorem Below.drewN' {B : Nat} {a w : World} (h : RowKit.Below B a w) : RowKit.Below B a w.drew := h.trans ⟨rfl, rfl, rfl, Nat.le_refl _, fun _ _ => rfl⟩

theorem image_step {w w2 w4 : World} {F : Nat → Prop} {p : Nat} {S : St} {sb sc bm ib ic r q L QQ : Nat} {g : Nat → Option Nat} {left : Nat → Bool} {zs : List Int} {fl : Bool} (hd2 : DevAt w2 F p S sb sc bm g) (hok : S.Ok) (hz : S.lin q = some (zs, fl)) (hQ : QQ = 64 * q)
    (hg4 : w2.drew.grownBy w4 (some ib)) (ho4 : Own .u8 5 0 w4 (some ⟨ib, 0, none⟩) L ic (splice (imageP S left) QQ zs)) (hrg : Rng w2 bm r g S.n (strike left q)) (hib : ∀ k, F k → k ≠ ib) (hbase : w.heap.size ≤ ib) (hr : r ≠ ib) (hb : RowKit.Below w.heap.size w w2) :
    Rng w4 bm r g S.n (strike left q) ∧ w4.rangeLeft bm r = w2.rangeLeft bm r ∧ Own .u8 5 w.heap.size w4 (some ⟨ib, 0, none⟩) L ic (imageP S (strike left q)) ∧ DevAt w4 F p S sb sc bm g ∧ RowKit.Below w.heap.size w w4 := by
  have hsz : w2.heap.size ≤ w4.heap.size := hg4.size
  have old : ∀ k, k < w2.heap.size → k ≠ ib → w4.heap[k]? = w2.heap[k]? := fun k hk hn => hg4.block k hk (by simpa using hn)
  have h1 := hrg.kept (w' := w4) (old bm (hd2.bound bm hd2.fm) (hib bm hd2.fm)) (old r hrg.lt hr)
  refine ⟨h1.1, h1.2, ?_, hd2.same hsz (fun k hk => old k (hd2.bound k hk) (hib k hk)), ?_⟩
  · subst hQ
    rw [imageP_step hok hz] at ho4
    exact own_up ho4 hbase
  · exact (Below.drewN' hb).grown hg4 hb.size (by intro k hk; cases hk; exact hbase)

set_option maxRecDepth 100000 in
theorem image_any {w : World} {F : Nat → Prop} {p : Nat} {S : St} (hd : Dev w F p S) :
    Calls Try.prog 26 #[.pointer (some ⟨p, 0, none⟩)] w fun e w' => ∃ g c, e = .returned (.slice (some ⟨g, 0, none⟩) S.seen.length c) ∧ Own .u8 5 w.heap.size w' (some ⟨g, 0, none⟩) S.seen.length c (lasts S) ∧ RowKit.Below w.heap.size w w' := by
  have hok := hd.ok
  obtain ⟨sb, sc, bm, g, hd⟩ := hd
  obtain ⟨c0, c1, c2, c3⟩ := dev_cells hd.obj
  have hl := hd.ok.len
  have hn0 := hd.ok.n0
  have hN := hd.ok.n1
  have hpb := hd.bound p hd.fp
  have hbd := hd.bound
  obtain ⟨L, hL⟩ : ∃ L, L = S.seen.length := ⟨_, rfl⟩
  have hcl := clone_any _ _ _ _ w hd.seen.sl (by omega) (by omega)
  rw [← hL] at c0 hcl hl ⊢
  have HL : Hid (L = 64 * S.n) := hl
  have hL9 : L ≤ 262144 := by omega
  clear hl hn0 hL
  go_enter Try.func26, Try.ntmps26
  go_wp2_with (first
    | (go_at_call 48; with_reducible refine hcl.mono ?_; rintro e w1 ⟨ib, ic, rfl, ho1, hb1⟩;
       have c1' := (cell_kept (i := 1) (hb1.block p hpb)).trans c1;
       have hd1 := hd.same hb1.size (fun k hk => hb1.block k (hbd k hk)); have hmap := hd1.map)
    | (at_range; refine wpList_range_map _ rfl _ rfl bm g S.n rfl hmap ?_; intro w0 hrg0 hg0 hs0))
  go_frame
  have hib := ho1.base
  have hib1 : ∀ k, F k → k ≠ ib := fun k hk e => by have := hbd k hk; omega
  have hri : w1.heap.size ≠ ib := by omega
  have hr1 : ∀ k, F k → k ≠ w1.heap.size := fun k hk => by have := hd1.bound k hk; omega
  have HS : Hid (w.heap.size ≤ w1.heap.size) := hb1.size
  have hcap := ho1.cap_le
  go_loopw [4] (fun _ wr => ∃ (left : Nat → Bool), Rng wr bm w1.heap.size g S.n left ∧ Own .u8 5 w.heap.size wr (some ⟨ib, 0, none⟩) L ic (imageP S left) ∧ DevAt wr F p S sb sc bm g ∧ RowKit.Below w.heap.size w wr) (fun _ wr => wr.rangeLeft bm w1.heap.size)
  case atStart =>
    refine ⟨_, hrg0, ?_, hd1.same hg0.size (fun k hk => hg0.block k (hd1.bound k hk) (by simp)), hb1.trans ⟨hg0.os, hg0.tape, hg0.output, hg0.size, fun k hk => hg0.block k (by have := HS.out; omega) (by simp)⟩⟩
    rw [imageP_start hok]
    · exact own_same ho1 (hg0.block ib hib.2 (by simp))
    · intro j x hj
      cases hgj : g j with
      | none => rw [hd.void j hgj] at hj; cases hj
      | some l => rfl
  case round =>
    obtain ⟨left, hrg, hown, hdl, hbl⟩ := hrel
    go_wp2_with (at_next; refine wpList_next_map _ rfl _ rfl bm w1.heap.size g S.n left hN rfl hrg ?_ ?_)
    · intro hl0
      go_wp2
      go_ret
      exact ⟨ib, ic, rfl, by rw [← imageP_end hl0]; exact hown, hbl⟩
    · intro q l w2 hgq hqN hlq hrg2 hlt2 hg2 hs2 hen
      have hd2 : DevAt w2 F p S sb sc bm g := hdl.same hg2.size (fun k hk => hg2.block k (hdl.bound k hk) (by simpa using hr1 k hk))
      have hbl2 : RowKit.Below w.heap.size w w2 := hbl.trans ⟨hg2.os, hg2.tape, hg2.output, hg2.size, fun k hk => hg2.block k (by have := hbl.size; omega) (by have := HS.out; simp; omega)⟩
      have hib2 : ib < wr.heap.size := hown.base.2
      have hown2 : Own .u8 5 w.heap.size w2 (some ⟨ib, 0, none⟩) L ic (imageP S left) := own_same hown (hg2.block ib hib2 (by simpa using hri.symm))
      obtain ⟨xb, xc, zs, fl, e1, e2, e3, e4, e5, e6⟩ := hd2.lines q l hgq
      obtain ⟨l0, l1, l2⟩ := lin_cells e5
      obtain ⟨QQ, hQQ⟩ : ∃ QQ, QQ = 64 * q := ⟨_, rfl⟩
      have hqL : QQ + 64 ≤ L := by have := HL.out; omega
      have hwq : IntKind.i64.wrap ((q : Int) * 64) = (QQ : Int) := by rw [wrap64_small (by omega) (by omega)]; omega
      have hicne : ¬ ic = QQ := by omega
      have hb0 : (0 : Int) ≤ QQ := by omega
      have hb1 : (QQ : Int) ≤ L := by omega
      have hdl2 : 64 ≤ L - QQ := by omega
      have hsd : Own .u8 5 0 w2.drew (some ⟨ib, 0, none⟩) L ic (imageP S left) := own_same (hown2.mono (Nat.zero_le _)) rfl
      have hxd : Own .u8 5 0 w2.drew (some ⟨xb, 0, none⟩) 64 xc zs := own_same e6 rfl
      have H1 : Hid (S.lin q = some (zs, fl) ∧ QQ = 64 * q) := ⟨e1, hQQ⟩
      clear e1 hQQ hgq hdl hrg hown hown2 hs2
      go_wp2
      go_region_law (refine step_copy_row rfl (.tmp 24) (.tmp 28) rfl ib QQ (L - QQ) (ic - QQ) L ic xb xc rfl rfl (imageP S left) zs hsd hxd hdl2 hqL ?_; intro w4 ho4 hg4)
      all_goals
        have hst := image_step (w := w) hd2 hok H1.out.1 H1.out.2 hg4 ho4 hrg2 hib1 hib.1 hri hbl2
        go_wp2
        go_roundw
        case rel => exact ⟨strike left q, hst.1, hst.2.2.1, hst.2.2.2.1, hst.2.2.2.2⟩
        case measure => rw [hst.2.1]; exact hlt2
end Go.Proofs.Ytgiippbjieecmaa
