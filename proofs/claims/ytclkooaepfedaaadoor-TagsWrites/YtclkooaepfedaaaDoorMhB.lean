/- SpliceStep · RefTagD · RefTagE: these texts, one behind another. -/
import Derived.Test.YtclkooaepfedaaaDoorMath
import Derived.Laws.CopyOwn
import Derived.Test.YtclkooaepfedaaaDoorRefTagC
import Derived.Test.YtclkooaepfedaaaDoorRefPut
import Derived.Test.YtclkooaepfedaaaDoorTagE
import Derived.Deep.RegionHeld3
/- Bytes laid one by one over a row. -/
namespace Go.Proofs.YtclkooaepfedaaaDoor
set_option maxRecDepth 100000
open Go.RowKit

theorem splice_step {Z Y : List Int} {p k : Nat} (hk : k < Y.length) (hp : p + Y.length ≤ Z.length) : (splice Z p (Y.take k)).set (p + k) (Y.getD k 0) = splice Z p (Y.take (k + 1)) := by
  unfold splice
  have h1 : (Y.take k).length = k := by simp; omega
  have h2 : (Y.take (k + 1)).length = k + 1 := by simp; omega
  have h3 : (Z.take p).length = p := by simp; omega
  rw [h1, h2, List.set_append_right _ _ (by omega), h3, show p + k - p = k by omega, List.set_append_right _ _ (by omega), h1, Nat.sub_self, take_succ' Y k hk, List.append_assoc]
  congr 2
  have h4 : Z.drop (p + k) = Z[p + k]'(by omega) :: Z.drop (p + (k + 1)) := by rw [List.drop_eq_getElem_cons (by omega)]; rfl
  rw [h4, List.set_cons_zero]
  simp [List.getD]
theorem splice_zero {Z Y : List Int} {p : Nat} : splice Z p (Y.take 0) = Z := by simp [splice]
end Go.Proofs.YtclkooaepfedaaaDoor
/- joistref11.Write by its contract. -/
namespace Go.Proofs.YtclkooaepfedaaaDoor
set_option maxRecDepth 100000
open Go.RowKit
set_option linter.unusedVariables false
set_option linter.unusedSimpArgs false
set_option maxRecDepth 100000

theorem put_own (B : Nat) (xo : Option Addr) (N c : Nat) (zs : List Int) (p : Nat) (x : Int) (w : World) (h : Own .u8 5 B w xo N c zs) (hN : N ≤ 1000000) (hp : 8 * p + 8 ≤ N) (hx0 : 0 ≤ x) (hx1 : x ≤ 4611686018427387903) :
    Calls Tryd.prog 32 #[.slice xo N c, .int .i64 p, .int .i64 x] w fun e w' => ∃ bo c', e = .returned (.tuple #[.slice bo N c', .int .i64 0]) ∧ Own .u8 5 w.heap.size w' bo N c' (putk zs (8 * p) x 8) ∧ Below w.heap.size w w' := by
  have hl := h.len
  refine (refput_ok xo N c zs p x w h.sl (by omega) hp hx0 hx1).mono ?_
  rintro e w' ⟨bo, m, c', rfl, k1, k2⟩
  have hm : m = N := by have := k1.len; rw [putk_length zs (8 * p) x 8 (by omega)] at this; omega
  subst hm
  exact ⟨bo, c', rfl, k1, k2⟩
/-- What is laid of a free block, as the document's writer goes. -/
def rg1 (f : Int) (g : List Spn) (i : Nat) : List (Nat × List Int) := [(8 * wd f (pa g i).pos, bys (64 * (pa g i).sz) 8), (8 * (wd f (pa g i).pos + 1), bys (nxL g i) 8), (8 * (wd f (pa g i).pos + 2), bys (ahL g i) 8), (8 * wd f ((pa g i).pos + (pa g i).sz - 1), bys (64 * (pa g i).sz) 8)]
def rgW (f : Int) (g : List Spn) (k : Nat) : List (Nat × List Int) := (List.range k).flatMap fun j => rg1 f g (g.length - 1 - j)
theorem rgW_succ (f : Int) (g : List Spn) (k : Nat) : rgW f g (k + 1) = rgW f g k ++ rg1 f g (g.length - 1 - k) := by simp [rgW, List.range_succ]
theorem rg_step (b : List Int) (f : Int) (g : List Spn) (k i : Nat) (hi : g.length - 1 - k = i) {p q : Nat} (hp : wd f (pa g i).pos = p) (hq : wd f ((pa g i).pos + (pa g i).sz - 1) = q) :
    putk (putk (putk (putk (puts b (rgW f g k)) (8 * p) (64 * (pa g i).sz) 8) (8 * (p + 1)) (nxL g i) 8) (8 * (p + 2)) (ahL g i) 8) (8 * q) (64 * (pa g i).sz) 8 = puts b (rgW f g (k + 1)) := by
  rw [rgW_succ, puts_append, hi]
  simp only [rg1, puts, List.foldl_cons, List.foldl_nil, hp, hq, putk_splice]
theorem mem_rgW {f : Int} {g : List Spn} {x : Nat × List Int} : x ∈ rgW f g g.length ↔ ∃ i, i < g.length ∧ x ∈ gW f (pa g i) (nxL g i) (ahL g i) := by
  have h1 : ∀ i, x ∈ rg1 f g i ↔ x ∈ gW f (pa g i) (nxL g i) (ahL g i) := fun i => by
    simp only [rg1, gW, List.mem_cons, List.not_mem_nil, or_false]
    constructor
    · rintro (h | h | h | h)
      · exact .inl h
      · exact .inr (.inr (.inl h))
      · exact .inr (.inr (.inr h))
      · exact .inr (.inl h)
    · rintro (h | h | h | h)
      · exact .inl h
      · exact .inr (.inr (.inr h))
      · exact .inr (.inl h)
      · exact .inr (.inr (.inl h))
  simp only [rgW, List.mem_flatMap, List.mem_range, h1]
  constructor
  · rintro ⟨j, hj, hx⟩
    exact ⟨g.length - 1 - j, by omega, hx⟩
  · rintro ⟨i, hi, hx⟩
    exact ⟨g.length - 1 - i, by omega, by rw [show g.length - 1 - (g.length - 1 - i) = i by omega]; exact hx⟩
theorem heap_rwrite {f t : Int} {l : List Blk} {ds : List (List Int)} (hr : RightP f t (spL l)) (hh : HoldB l ds) : HeapB f t l ds (puts (puts (List.replicate (8 * (t - f).toNat) 0) (usW f l ds l.length)) (rgW f (gapsL f t (spL l)) (gapsL f t (spL l)).length)) := by
  rw [← puts_append]
  have hm : ∀ x, x ∈ usW f l ds l.length ++ rgW f (gapsL f t (spL l)) (gapsL f t (spL l)).length ↔ Laid f t l ds x := fun x => by
    rw [List.mem_append, mem_rgW]
    simp only [usW, List.mem_flatMap, List.mem_range]
    exact Iff.rfl
  exact heap_puts hr hh (fun x hx => (hm x).1 hx) (fun x hx => (hm x).2 hx)
/-- The heads behind some blocks. -/
def hdK (g : List Spn) (k : Nat) : List Int := (List.range 7).map (fsL (g.drop (g.length - k)))
theorem hdK_length (g : List Spn) (k : Nat) : (hdK g k).length = 7 := by simp [hdK]
theorem hdK_zero (g : List Spn) : hdK g 0 = List.replicate 7 0 := by
  unfold hdK
  rw [Nat.sub_zero, List.drop_length]
  rfl
theorem hdK_full (g : List Spn) : hdK g g.length = hdL g := by simp [hdK, hdL]
theorem hdK_set {g : List Spn} {k i : Nat} (hi : g.length - 1 - k = i) (hk : k < g.length) : (hdK g k).set (lsN (pa g i).sz) ((pa g i).pos + 1) = hdK g (k + 1) := by
  have e : g.drop (g.length - (k + 1)) = pa g i :: g.drop (g.length - k) := by
    rw [drop_pa (by omega), show g.length - (k + 1) + 1 = g.length - k by omega, show g.length - (k + 1) = i by omega]
  apply List.ext_getElem?
  intro j
  unfold hdK
  rw [e, List.getElem?_set]
  by_cases hj : lsN (pa g i).sz = j
  · subst hj
    have := lsN_lt (pa g i).sz
    rw [if_pos rfl, if_pos (by simpa using this)]
    simp [this, fs_here]
  · rw [if_neg hj]
    by_cases h7 : j < 7
    · simp [h7, fs_next hj]
    · simp [h7]
theorem rwrite_bad (f t : Int) (ao : Option Addr) (n cap : Nat) (l : List Blk) (bo : Option Addr) (m cap' : Nat) (A : Nat → Option Addr) (N C : Nat → Nat) (ds : List (List Int)) (w : World) (h : Bs w ao n cap l) (hd : Rd w bo m cap' A N C ds) (hn : n ≤ 100000) (hm : m ≤ 9223372036854775807) (hR : ¬ (RightP f t (spL l) ∧ HoldB l ds)) :
    Calls Tryd.prog 12 #[.int .i64 f, .int .i64 t, .slice ao n cap, .slice bo m cap'] w fun e w' => e = .returned (.tuple #[.slice none 0 0, .slice none 0 0, .int .i64 1]) ∧ Below w.heap.size w w' := by
  have cR : Calls Tryd.prog 31 #[.int .i64 f, .int .i64 t, .slice ao n cap, .slice bo m cap'] w fun e w' => e = .returned (.bool false) ∧ Below w.heap.size w w' := by
    refine (rright_bs f t ao n cap l bo m cap' A N C ds w h hd hn hm).mono ?_
    rintro e w' ⟨⟨r, rfl, hr⟩, hb⟩
    cases r with
    | false => exact ⟨rfl, hb⟩
    | true => exact absurd (hr.1 rfl) hR
  clear h hd hR
  go_enter Tryd.func12, Tryd.ntmps12
  go_wp2_with (first
    | (go_at_call 31; with_reducible refine cR.mono ?_; rintro e w1 ⟨rfl, hb1⟩))
  go_ret3
  exact ⟨rfl, hb1⟩
end Go.Proofs.YtclkooaepfedaaaDoor
/- joistref11.Write by its contract: the walk. -/
namespace Go.Proofs.YtclkooaepfedaaaDoor
set_option maxRecDepth 100000
open Go.RowKit
set_option linter.unusedVariables false
set_option linter.unusedSimpArgs false
set_option maxRecDepth 100000

theorem own_apart {B B' : Nat} {w : World} {ao : Option Addr} {hg n c n' c' : Nat} {zs ys : List Int} (h : Own .u8 5 B w ao n c zs) (h' : Own .i64 3 B' w (some ⟨hg, 0, none⟩) n' c' ys) (a : Addr) (ha : ao = some a) : ¬ a.block = hg := by
  intro e
  obtain ⟨cur, hc, _⟩ := h'.block
  rcases h.row.2 with ⟨hv, _⟩ | ⟨g', cap', cur', hv, _, hh, _⟩
  · rw [ha] at hv; simp at hv
  · rw [ha] at hv
    simp only [Value.slice.injEq, Option.some.injEq] at hv
    rw [hv.1] at e
    simp only at e
    rw [e, hc] at hh
    simp at hh
theorem made_ints (n : Nat) : (madeCells #[Value.int .i64 0] n).toList = (List.replicate n (0 : Int)).map (Value.int .i64) := by rw [toList_madeCells_one]; simp
set_option maxHeartbeats 8000000 in
theorem rwrite_ok (f t : Int) (ao : Option Addr) (n cap : Nat) (l : List Blk) (bo : Option Addr) (m cap' : Nat) (A : Nat → Option Addr) (N C : Nat → Nat) (ds : List (List Int)) (w : World) (h : Bs w ao n cap l) (hd : Rd w bo m cap' A N C ds) (hn : n ≤ 99999) (hm : m ≤ 9223372036854775807) (hr : RightP f t (spL l)) (hh : HoldB l ds) :
    Calls Tryd.prog 12 #[.int .i64 f, .int .i64 t, .slice ao n cap, .slice bo m cap'] w fun e w' => ∃ xo xc hg zs, e = .returned (.tuple #[.slice xo (8 * (t - f).toNat) xc, .slice (some ⟨hg, 0, none⟩) 7 7, .int .i64 0]) ∧ HeapB f t l ds zs ∧ Sl .u8 w' xo (8 * (t - f).toNat) xc zs ∧ Sl .i64 w' (some ⟨hg, 0, none⟩) 7 7 (hdL (gapsL f t (spL l))) ∧ Below w.heap.size w w' := by
  have hl := h.len
  have hdl := hd.len
  have hmn : m = n := by have := hh.len; omega
  subst hmn
  obtain ⟨hf0, hft, ht2, _, _⟩ := id hr.1
  obtain ⟨i0, hi, hz0, hz1, hz2⟩ := info_parts Tryd.info5
  obtain ⟨i1, hi1, hy0, hy1, hy2⟩ := info_parts Tryd.info3
  have cR : Calls Tryd.prog 31 #[.int .i64 f, .int .i64 t, .slice ao m cap, .slice bo m cap'] w fun e w' => e = .returned (.bool true) ∧ Below w.heap.size w w' := by
    refine (rright_bs f t ao m cap l bo m cap' A N C ds w h hd (by omega) hm).mono ?_
    rintro e w' ⟨⟨r, rfl, hr'⟩, hb⟩
    rw [hr'.2 ⟨hr, hh⟩]
    exact ⟨rfl, hb⟩
  obtain ⟨M, hM⟩ : ∃ M, 8 * (t - f).toNat = M := ⟨_, rfl⟩
  have w1' : IntKind.i64.wrap (t - f) = t - f := IntWalk.i64_in _ ⟨by omega, by omega⟩
  have w2' : IntKind.i64.wrap (8 * (t - f)) = (M : Int) := by rw [IntWalk.i64_in _ ⟨by omega, by omega⟩]; omega
  have hM2 : M ≤ 16384 := by omega
  obtain ⟨g, hg⟩ : ∃ g, gapsL f t (spL l) = g := ⟨_, rfl⟩
  have Hgf : Hid (∀ i, i < g.length → f ≤ (pa g i).pos ∧ 4 ≤ (pa g i).sz ∧ (pa g i).sz ≤ t - (pa g i).pos) := hid (fun i hi => by
    subst hg
    have := gap_fit hr hi
    omega)
  have Hgp : Hid (∀ s ∈ g, 0 ≤ s.pos ∧ s.pos < 2048) := hid (fun s hs => by
    subst hg
    have := gaps_from _ hr.2 hs
    unfold Spn.fin at this
    omega)
  have hgl : g.length ≤ m + 1 := by
    subst hg
    have := gaps_len t (spL l) f
    simp only [spL, List.length_map] at this ⊢
    omega
  have HF := hid (heap_rwrite hr hh)
  rw [hg, hM, hl] at HF
  rw [hM, hg]
  have HGE := hid hg
  clear hg
  go_enter Tryd.func12, Tryd.ntmps12
  go_wp2_with (first
    | (go_at_call 31; with_reducible refine cR.mono ?_; rintro e w1 ⟨rfl, hb1⟩; clear cR)
    | (at_make; refine wpList_make_full _ rfl _ _ 26 rfl w1.heap.size 5 i0 (.int .u8 0) 1 Tryd.underlying26 hi hz0 hz1 .i64 .i64 _ _ M rfl rfl (by simp) (by simp) ?b2 ?b3 ?b4 ?_))
  case b2 => rw [hz2]; omega
  case b3 => unfold maxLen; omega
  case b4 => exact Nat.le_refl _
  intro w2 hown hgrow
  have hb2 : Below w1.heap.size w1 w2 := (Below.refl _ _).grown hgrow (Nat.le_refl _) (by intro k hk; cases hk)
  have HO2 : Hid (Own .u8 5 w.heap.size w2 (some ⟨w1.heap.size, 0, none⟩) M M (puts (List.replicate M 0) (usW f l ds 0))) := hid (Own.mono ⟨by simp [usW, puts], by rw [made_zeros] at hown; exact hown⟩ hb1.size)
  have hb12 := next hb1 hb2
  clear hown hgrow hb1 hb2 w2'
  go_wp2
  go_loopw [12, 13] (fun s12 s13 wr => ∃ (k : Nat) (xo : Option Addr) (xc : Nat), k ≤ m ∧ s13 = .int .i64 k ∧ s12 = .slice xo M xc ∧ Hid (Own .u8 5 w.heap.size wr xo M xc (puts (List.replicate M 0) (usW f l ds k))) ∧ Below w.heap.size w wr) (fun _ s13 _ => m - (intOf s13).toNat)
  case atStart => exact ⟨0, _, M, Nat.zero_le _, rfl, rfl, HO2, hb12⟩
  case round =>
    clear HO2 hb12
    obtain ⟨k, xo, xc, hk, rfl, rfl, HO, hb⟩ := hrel
    by_cases hlt : k < m
    · obtain ⟨b, off, rfl, hbl, _⟩ := h.here (by omega)
      obtain ⟨b2, off2, rfl, hbl2, _⟩ := hd.here (by omega)
      obtain ⟨c0, c1, c2⟩ := h.at hb hlt
      have hki : (k : Int) < (m : Int) := by omega
      obtain ⟨f1, f2, f3, f4, f5⟩ := blk_fit hr (i := k) (by omega)
      obtain ⟨x1, x2, x3⟩ := hh.ixs k (by omega)
      have hrow := hd.row k hlt
      have hrl := hrow.len
      have hb1 : Below wr.heap.size wr (wr.alloc (ba l k).obj) := (Below.refl _ _).alloc (Nat.le_refl _) _
      obtain ⟨p, hp⟩ : ∃ p, wd f (ba l k).pos = p := ⟨_, rfl⟩
      obtain ⟨q, hq⟩ : ∃ q, wd f ((ba l k).pos + (ba l k).sz - 1) = q := ⟨_, rfl⟩
      have hpq : (p : Int) + (ba l k).sz - 1 = q ∧ 8 * p + 8 ≤ M ∧ 8 * q + 8 ≤ M ∧ (ba l k).pos - f = p ∧ 8 * (p + 1) + N k ≤ M ∧ (ba l k).sz ≤ 2048 := by
        unfold wd at hp hq
        omega
      have htg : 0 ≤ (ba l k).tag ∧ (ba l k).tag ≤ 4611686018427387903 ∧ (ba l k).tag = 64 * (ba l k).sz + (ba l k).ix + 1 := by unfold Blk.tag; omega
      have HN := hid (bxB_new wr (ba l k))
      have cP1 := put_own w.heap.size xo M xc _ p (ba l k).tag (wr.alloc (ba l k).obj) (HO.out.below hb1) (by omega) hpq.2.1 htg.1 htg.2.1
      have HP2 : Hid (∀ w2 xo2 xc2 zs2, Own .u8 5 w.heap.size w2 xo2 M xc2 zs2 → Calls Tryd.prog 32 #[.slice xo2 M xc2, .int .i64 q, .int .i64 (ba l k).tag] w2 fun e w' => ∃ bo c', e = .returned (.tuple #[.slice bo M c', .int .i64 0]) ∧ Own .u8 5 w2.heap.size w' bo M c' (putk zs2 (8 * q) (ba l k).tag 8) ∧ Below w2.heap.size w2 w') := hid (fun w2 xo2 xc2 zs2 h1 => put_own w.heap.size xo2 M xc2 zs2 q (ba l k).tag w2 h1 (by omega) hpq.2.2.1 htg.1 htg.2.1)
      have HST := hid (us_step (List.replicate M 0) f l ds k hp hq)
      have HX : Hid (∀ w2, Below wr.heap.size wr w2 → Below (wr.alloc (ba l k).obj).heap.size (wr.alloc (ba l k).obj) w2 → w2.cell? ⟨wr.heap.size, 0, none⟩ = some (.int .i64 (ba l k).pos) ∧ w2.cell? ⟨wr.heap.size, 1, none⟩ = some (.int .i64 (ba l k).sz) ∧ w2.cell? ⟨wr.heap.size, 2, none⟩ = some (.int .i64 (ba l k).ix)) := hid (fun w2 _ hb => (HN.out.kept hb).cells)
      have Hb1 := hid hb1
      have a1 : IntKind.i64.wrap ((ba l k).pos - f) = (p : Int) := by rw [hpq.2.2.2.1]; exact IntWalk.i64_in _ ⟨by omega, by omega⟩
      have a2 : IntKind.i64.wrap (64 * (ba l k).sz) = 64 * (ba l k).sz := IntWalk.i64_in _ ⟨by omega, by omega⟩
      have a3 : IntKind.i64.wrap (64 * (ba l k).sz + (ba l k).ix) = 64 * (ba l k).sz + (ba l k).ix := IntWalk.i64_in _ ⟨by omega, by omega⟩
      have a4 : IntKind.i64.wrap (64 * (ba l k).sz + (ba l k).ix + 1) = (ba l k).tag := by rw [htg.2.2]; exact IntWalk.i64_in _ ⟨by omega, by omega⟩
      have a5 : IntKind.i64.wrap ((p : Int) + (ba l k).sz) = (p : Int) + (ba l k).sz := IntWalk.i64_in _ ⟨by omega, by omega⟩
      have a6 : IntKind.i64.wrap ((p : Int) + (ba l k).sz - 1) = (q : Int) := by rw [hpq.1]; exact IntWalk.i64_in _ ⟨by omega, by omega⟩
      have hMp : 0 < M := by omega
      have d2 : 8 * (p + 1) + N k ≤ M := hpq.2.2.2.2.1
      have hplo : p ≤ 16384 := by omega
      have HD2 : Hid (∀ w2, Below w.heap.size w w2 → w2.cell? ⟨b2, off2 + k, none⟩ = some (.slice (A k) (N k) (C k)) ∧ Sl .u8 w2 (A k) (N k) (C k) (da ds k)) := hid (fun w2 hb => ⟨hd.cell hb hlt, hrow.below hb⟩)
      have hnl : (da ds k).length = N k := hrl
      clear hpq hp hq f1 f2 f3 f4 f5 x1 x2 x3 htg HO h hd hr hh HN hb1 hrow
      generalize da ds k = dk at *
      generalize ba l k = s at *
      generalize N k = nk at *
      generalize A k = Ak at *
      generalize C k = Ck at *
      obtain ⟨ps, z, ix⟩ := s
      simp only [Blk.obj] at *
      generalize (⟨ps, z, ix⟩ : Blk).tag = tg at *
      go_wp2_with (first
        | (go_at_call 32; with_reducible refine cP1.mono ?_; rintro e w3 ⟨xo3, xc3, rfl, k1, k2⟩; have b3 := next Hb1.out k2; have hb3 := next hb b3; obtain ⟨y0, y1, y2⟩ := HX.out w3 b3 k2; have cP2 := HP2.out w3 xo3 xc3 _ (k1.mono (Nat.le_trans hb.size Hb1.out.size)); clear cP1 k1)
        | (go_at_call 32; with_reducible refine cP2.mono ?_; rintro e w4 ⟨xo4, xc4, rfl, k3, k4⟩; have hb4 := next hb3 k4; have K3 := hid (k3.mono hb3.size); clear cP2 k3))
      generalize putk (putk (puts (List.replicate M 0) (usW f l ds k)) (8 * p) tg 8) (8 * q) tg 8 = Z at *
      obtain ⟨g, cx, hgx⟩ := own_shape K3.out.row hMp
      simp only [Value.slice.injEq, true_and] at hgx
      obtain ⟨rfl, rfl⟩ := hgx
      have hgw : w.heap.size ≤ g := (K3.out.row.lt g (by simp [Value.ownBlock])).1
      have hZl : Z.length = M := K3.out.len
      have HW : Hid (Own .u8 5 w.heap.size w4 (some ⟨g, 0, none⟩) M xc4 (splice Z (8 * (p + 1)) (dk.take 0))) := hid (by rw [splice_zero]; exact K3.out)
      clear K3 HP2 HX Hb1 b3 hb3 k2 k4 a1 a2 a3 a4 a5 a6 y0 y1 y2 c0 c1 c2 hb
      go_wp2
      go_loopw [16] (fun t wr2 => ∃ j : Nat, j ≤ nk ∧ t = .int .i64 j ∧ Own .u8 5 w.heap.size wr2 (some ⟨g, 0, none⟩) M xc4 (splice Z (8 * (p + 1)) (dk.take j)) ∧ Below w.heap.size w wr2) (fun t _ => nk - (intOf t).toNat)
      case atStart => exact ⟨0, Nat.zero_le _, rfl, HW.out, hb4⟩
      case round =>
        clear HW hb4
        obtain ⟨j, hj, rfl, hown, hbj⟩ := hrel
        obtain ⟨d1, hbs⟩ := HD2.out wr hbj
        by_cases hlj : j < nk
        · have hji : (j : Int) < (nk : Int) := by omega
          obtain ⟨b3, o3, rfl, _, hcs⟩ := hbs.here (by omega)
          have d3 := hcs j hlj
          obtain ⟨y, hy⟩ : ∃ y, dk.getD j 0 = y := ⟨_, rfl⟩
          rw [hy] at d3
          obtain ⟨cur, hcur, hcs2, _⟩ := hown.block
          have hcap := hown.cap_le
          have hfr := frozen_of_row _ g (8 * (p + 1) + j) cur 5 hcur
          have hcell : ∃ v, wr.cell? ⟨g, 8 * (p + 1) + j, none⟩ = some v := by
            rw [cell_of_row _ g (8 * (p + 1) + j) cur 5 (0, 0) hcur]
            have hsz : 8 * (p + 1) + j < cur.size := by omega
            exact ⟨cur[8 * (p + 1) + j], Array.getElem?_eq_getElem hsz⟩
          obtain ⟨v, hcell⟩ := hcell
          have HN : Hid (Own .u8 5 w.heap.size (wr.setCell ⟨g, 8 * (p + 1) + j, none⟩ (.int .u8 y)) (some ⟨g, 0, none⟩) M xc4 (splice Z (8 * (p + 1)) (dk.take (j + 1)))) := hid (by
            have := hown.set (8 * (p + 1) + j) y
            rw [← hy, splice_step (by omega) (by omega)] at this
            rw [hy] at this
            exact this)
          have e2 : 8 * (p + 1) + j < M := by omega
          clear hown hcs hbs hcur HST HD2
          go_wp2
          go_roundw
          case rel => exact ⟨j + 1, by omega, by go_num, HN.out, hbj.setCell hgw _⟩
          case measure => simp [intOf]; omega
        · obtain rfl : j = nk := by omega
          have hown' := hid (show Own .u8 5 w.heap.size wr (some ⟨g, 0, none⟩) M xc4 (puts (List.replicate M 0) (usW f l ds (k + 1))) by rw [← HST.out]; rw [List.take_of_length_le (by omega)] at hown; exact hown)
          have hji : ¬ ((j : Int) < (j : Int)) := by omega
          clear hown hbs HST HD2
          go_wp2
          go_roundw
          case rel => exact ⟨k + 1, some ⟨g, 0, none⟩, xc4, by omega, by go_num, rfl, hown', hbj⟩
          case measure => simp [intOf]; omega
    · obtain rfl : k = m := by omega
      have cF := rfree_bs f t ao k cap l wr (h.below hb) (by omega) hr
      rw [HGE.out] at cF
      clear h hd hr hh HGE
      have hki : ¬ ((k : Int) < (k : Int)) := by omega
      generalize puts (List.replicate M 0) (usW f l ds k) = Z1 at *
      go_wp2_with (first
        | (go_at_call 33; with_reducible refine cF.mono ?_; rintro e w3 ⟨go, gm, gc, rfl, kG, kb⟩; clear cF)
        | (at_make; refine wpList_make_full _ rfl _ _ 28 rfl w3.heap.size 3 i1 (.int .i64 0) 1 Tryd.underlying28 hi1 hy0 hy1 .i64 .i64 _ _ 7 rfl rfl (by simp) (by simp) ?c2 ?c3 ?c4 ?_))
      case c2 => rw [hy2]; omega
      case c3 => unfold maxLen; omega
      case c4 => exact Nat.le_refl _
      intro w4 hown hgrow
      have b4 : Below w3.heap.size w3 w4 := (Below.refl _ _).grown hgrow (Nat.le_refl _) (by intro k hk; cases hk)
      have hb3 := next hb kb
      have hb4 := next hb3 b4
      have HH : Hid (Own .i64 3 w.heap.size w4 (some ⟨w3.heap.size, 0, none⟩) 7 7 (hdK g 0)) := hid (Own.mono ⟨by simp [hdK_length], by rw [hdK_zero, ← made_ints]; exact hown⟩ hb3.size)
      have HO2 : Hid (Own .u8 5 w.heap.size w4 xo M xc (puts Z1 (rgW f g 0))) := hid (((HO.out.below kb).below b4))
      have HG : Hid (Ps w4 go gm gc g) := hid ((kG.below b4).ps)
      have hgo : 0 < gm → ∀ c, go = some c → ¬ c.block = w3.heap.size := fun h0 c hc => by
        obtain ⟨g', e', _, hlt⟩ := kG.shape h0
        rw [hc] at e'
        cases e'
        simp only
        omega
      have hgm : g.length = gm := kG.len
      clear hown hgrow kG HO hb hb3 kb b4
      generalize w3.heap.size = hg at *
      have hgm2 : gm ≤ 100000 := by omega
      go_wp2
      go_loopw [12, 19] (fun s12 s19 wr => ∃ (j : Nat) (xo : Option Addr) (xc : Nat) (q : Int), j ≤ gm ∧ Hid (q = (gm : Int) - 1 - j) ∧ s19 = .int .i64 q ∧ s12 = .slice xo M xc ∧ Hid (Own .u8 5 w.heap.size wr xo M xc (puts Z1 (rgW f g j))) ∧ Hid (Own .i64 3 w.heap.size wr (some ⟨hg, 0, none⟩) 7 7 (hdK g j)) ∧ Hid (Ps wr go gm gc g) ∧ Below w.heap.size w wr) (fun _ s19 _ => (intOf s19 + 1).toNat)
      case atStart => exact ⟨0, xo, xc, _, Nat.zero_le _, hid (by omega), rfl, rfl, HO2, HH, HG, hb4⟩
      case round =>
        clear HO2 HH HG hb4
        obtain ⟨j, xo, xc, q, hj, hq, rfl, rfl, HO, HH, HG, hb⟩ := hrel
        by_cases h0 : 0 ≤ q
        · obtain ⟨i, rfl⟩ : ∃ i : Nat, q = (i : Int) := ⟨q.toNat, by omega⟩
          have hi' : g.length - 1 - j = i := by have := hq.out; omega
          have hjm : j + 1 ≤ gm := by have := hq.out; omega
          have him : i < gm := by have := hq.out; omega
          obtain ⟨gb, goff, rfl, hgbl, _⟩ := HG.out.here (by omega)
          have hgn : ¬ gb = hg := hgo (by omega) ⟨gb, goff, none⟩ rfl
          obtain ⟨f1, f2, f3⟩ := Hgf.out i (by omega)
          have HX : Hid (∀ w2, Below wr.heap.size wr w2 → w2.cell? ⟨gb, goff + i * 2, none⟩ = some (.int .i64 (pa g i).pos) ∧ w2.cell? ⟨gb, goff + i * 2 + 1, none⟩ = some (.int .i64 (pa g i).sz)) := hid (fun w2 hb2 => by obtain ⟨c0, c1⟩ := HG.out.at hb2 him; exact ⟨c0, c1⟩)
          have HU : Hid (∀ w2, Below wr.heap.size wr w2 → Calls Tryd.prog 34 #[.slice (some ⟨gb, goff, none⟩) gm gc, .int .i64 i, .int .i64 1] w2 fun e w' => e = .returned (.int .i64 (nxL g i)) ∧ Below w2.heap.size w2 w') := hid (fun w2 hb2 => beside_up _ gm gc g i w2 (HG.out.below hb2) hgm2 him (fun s hs => by have := Hgp.out s hs; omega))
          have HDn : Hid (∀ w2, Below wr.heap.size wr w2 → Calls Tryd.prog 34 #[.slice (some ⟨gb, goff, none⟩) gm gc, .int .i64 i, .int .i64 (-1)] w2 fun e w' => e = .returned (.int .i64 (ahL g i)) ∧ Below w2.heap.size w2 w') := hid (fun w2 hb2 => beside_down _ gm gc g i w2 (HG.out.below hb2) hgm2 him (fun s hs => by have := Hgp.out s hs; omega))
          have hnx : 0 ≤ nxL g i ∧ nxL g i ≤ 2048 := fs_bound _ _ (fun s hs => Hgp.out s (List.mem_of_mem_drop hs)) (by omega)
          have hah : 0 ≤ ahL g i ∧ ahL g i ≤ 2048 := fs_bound _ _ (fun s hs => Hgp.out s (List.mem_of_mem_take (List.mem_reverse.1 hs))) (by omega)
          obtain ⟨p, hp⟩ : ∃ p, wd f (pa g i).pos = p := ⟨_, rfl⟩
          obtain ⟨r, hr⟩ : ∃ r, wd f ((pa g i).pos + (pa g i).sz - 1) = r := ⟨_, rfl⟩
          have hpq : (p : Int) + (pa g i).sz - 1 = r ∧ 8 * p + 32 ≤ M ∧ 8 * r + 8 ≤ M ∧ (pa g i).pos - f = p ∧ (pa g i).sz ≤ 2048 := by
            unfold wd at hp hr
            omega
          have HST := hid (rg_step Z1 f g j i hi' hp hr)
          have HSK := hid (hdK_set hi' (by omega))
          have cP1 := put_own w.heap.size xo M xc _ p (64 * (pa g i).sz) wr HO.out (by omega) (by omega) (by omega) (by omega)
          have HP2 : Hid (∀ w2 xo2 xc2 zs2, Own .u8 5 w.heap.size w2 xo2 M xc2 zs2 → Calls Tryd.prog 32 #[.slice xo2 M xc2, .int .i64 ((p : Int) + 1), .int .i64 (nxL g i)] w2 fun e w' => ∃ bo c', e = .returned (.tuple #[.slice bo M c', .int .i64 0]) ∧ Own .u8 5 w2.heap.size w' bo M c' (putk zs2 (8 * (p + 1)) (nxL g i) 8) ∧ Below w2.heap.size w2 w') := hid (fun w2 xo2 xc2 zs2 h1 => put_own w.heap.size xo2 M xc2 zs2 (p + 1) _ w2 h1 (by omega) (by omega) hnx.1 (by omega))
          have HP3 : Hid (∀ w2 xo2 xc2 zs2, Own .u8 5 w.heap.size w2 xo2 M xc2 zs2 → Calls Tryd.prog 32 #[.slice xo2 M xc2, .int .i64 ((p : Int) + 2), .int .i64 (ahL g i)] w2 fun e w' => ∃ bo c', e = .returned (.tuple #[.slice bo M c', .int .i64 0]) ∧ Own .u8 5 w2.heap.size w' bo M c' (putk zs2 (8 * (p + 2)) (ahL g i) 8) ∧ Below w2.heap.size w2 w') := hid (fun w2 xo2 xc2 zs2 h1 => put_own w.heap.size xo2 M xc2 zs2 (p + 2) _ w2 h1 (by omega) (by omega) hah.1 (by omega))
          have HP4 : Hid (∀ w2 xo2 xc2 zs2, Own .u8 5 w.heap.size w2 xo2 M xc2 zs2 → Calls Tryd.prog 32 #[.slice xo2 M xc2, .int .i64 r, .int .i64 (64 * (pa g i).sz)] w2 fun e w' => ∃ bo c', e = .returned (.tuple #[.slice bo M c', .int .i64 0]) ∧ Own .u8 5 w2.heap.size w' bo M c' (putk zs2 (8 * r) (64 * (pa g i).sz) 8) ∧ Below w2.heap.size w2 w') := hid (fun w2 xo2 xc2 zs2 h1 => put_own w.heap.size xo2 M xc2 zs2 r _ w2 h1 (by omega) hpq.2.2.1 (by omega) (by omega))
          have cL := fun w2 => rlist_any (pa g i).sz w2
          have hL7 : lsN (pa g i).sz < 7 := lsN_lt _
          obtain ⟨c0, c1⟩ := HX.out wr (Below.refl _ _)
          have hbs := hb.size
          have hhsz : w.heap.size ≤ hg := (HH.out.row.lt hg (by simp [Value.ownBlock])).1
          have HC : Hid (∀ w2, Below wr.heap.size wr w2 → w2.frozen? ⟨hg, lsN (pa g i).sz, none⟩ = false ∧ ∃ v, w2.cell? ⟨hg, lsN (pa g i).sz, none⟩ = some v) := hid (fun w2 hb2 => by
            have h7 := HH.out.below hb2
            obtain ⟨cur, hcur, hcs, _⟩ := h7.block
            exact ⟨frozen_of_row _ _ _ cur 3 hcur, _, h7.at _ hL7 rfl⟩)
          have a1 : IntKind.i64.wrap ((pa g i).pos - f) = (p : Int) := by rw [hpq.2.2.2.1]; exact IntWalk.i64_in _ ⟨by omega, by omega⟩
          have a2 : IntKind.i64.wrap (64 * (pa g i).sz) = 64 * (pa g i).sz := IntWalk.i64_in _ ⟨by omega, by omega⟩
          have a5 : IntKind.i64.wrap ((p : Int) + (pa g i).sz) = (p : Int) + (pa g i).sz := IntWalk.i64_in _ ⟨by omega, by omega⟩
          have a6 : IntKind.i64.wrap ((p : Int) + (pa g i).sz - 1) = (r : Int) := by rw [hpq.1]; exact IntWalk.i64_in _ ⟨by omega, by omega⟩
          have hpl : p ≤ 2048 := by omega
          have hz : 4 ≤ (pa g i).sz ∧ (pa g i).sz ≤ 2048 := ⟨f2, hpq.2.2.2.2⟩
          have hps : 0 ≤ (pa g i).pos ∧ (pa g i).pos ≤ 2048 := by omega
          have Hi' := hid hi'
          clear hpq hp hr f1 f2 f3 hnx hah HO hi'
          generalize lsB (pa g i).sz = lb at *
          generalize lsN (pa g i).sz = ln at *
          generalize nxL g i = nx at *
          generalize ahL g i = ah at *
          generalize pa g i = s at *
          obtain ⟨ps, z⟩ := s
          simp only at *
          go_wp2_with (first
            | (go_at_call 32; with_reducible refine cP1.mono ?_; rintro e w5 ⟨xo5, xc5, rfl, k5, B5⟩; have O5 := hid (k5.mono hbs); obtain ⟨y0, y1⟩ := HX.out w5 B5; have cU := HU.out w5 B5; clear cP1 k5 HU)
            | (go_at_call 34; with_reducible refine cU.mono ?_; rintro e w6 ⟨rfl, b6⟩; have B6 := next B5 b6; have cP2 := HP2.out w6 xo5 xc5 _ (O5.out.below b6); clear cU HP2)
            | (go_at_call 32; with_reducible refine cP2.mono ?_; rintro e w7 ⟨xo7, xc7, rfl, k7, b7⟩; have B7 := next B6 b7; have O7 := hid (k7.mono (Nat.le_trans hbs B6.size)); have cD := HDn.out w7 B7; clear cP2 k7 HDn)
            | (go_at_call 34; with_reducible refine cD.mono ?_; rintro e w8 ⟨rfl, b8⟩; have B8 := next B7 b8; have cP3 := HP3.out w8 xo7 xc7 _ (O7.out.below b8); clear cD HP3)
            | (go_at_call 32; with_reducible refine cP3.mono ?_; rintro e w9 ⟨xo9, xc9, rfl, k9, b9⟩; have B9 := next B8 b9; have O9 := hid (k9.mono (Nat.le_trans hbs B8.size)); obtain ⟨x0, x1⟩ := HX.out w9 B9; clear cP3 k9))
          go_region_held3 (fun w' => w'.cell? ⟨gb, goff + i * 2 + 1, none⟩ = some (.int .i64 z)) (go_keep) (first
            | (go_at_call 32; with_reducible refine (HP4.out _ xo9 xc9 _ (O9.out.below (Below.refl _ _).drew)).mono ?_; rintro e w10 ⟨xo10, xc10, rfl, k10, b10⟩; have B10 := next B9 (next (Below.refl _ _).drew b10); have O10 := hid (k10.mono (Nat.le_trans hbs (show Below wr.heap.size wr w9.drew from next B9 (Below.refl _ _).drew).size)); obtain ⟨x0, x1⟩ := HX.out w10 B10; clear k10))
          go_wp2_with (first
            | (go_at_call 17; with_reducible refine (cL w10).mono ?_; rintro e w11 ⟨rfl, b11⟩; have B11 := next B10 b11; have O11 := hid (O10.out.below b11); obtain ⟨x0, x1⟩ := HX.out w11 B11; obtain ⟨hfr, v, hce⟩ := HC.out w11 B11))
          have H11 := HH.out.below B11
          have hof : Off (fun j => j = hg) w11 (w11.setCell ⟨hg, ln, none⟩ (.int .i64 (ps + 1))) := (Off.refl _ _).setCell _ _ rfl
          go_roundw
          case rel =>
            refine ⟨j + 1, xo10, xc10, (i : Int) - 1, hjm, hid (by have := hq.out; omega), by go_num, rfl, hid ?_, hid ?_, hid ?_, ?_⟩
            · rw [← HST.out]
              exact O11.out.off hof (own_apart O11.out H11)
            · rw [← HSK.out]
              exact H11.set ln (ps + 1)
            · exact (HG.out.below B11).off hof (fun _ c hc => by cases hc; exact hgn)
            · exact (next hb B11).setCell hhsz _
          case measure => simp [intOf]
        · have hjg : j = gm := by have := hq.out; omega
          have HE : Hid (HeapB f t l ds (puts Z1 (rgW f g g.length)) ∧ Own .u8 5 w.heap.size wr xo M xc (puts Z1 (rgW f g g.length)) ∧ Own .i64 3 w.heap.size wr (some ⟨hg, 0, none⟩) 7 7 (hdL g)) := hid (by
            rw [hgm, ← hjg]
            refine ⟨?_, HO.out, ?_⟩
            · have := HF.out
              rw [hgm, ← hjg] at this
              exact this
            · have := HH.out
              rw [hjg, ← hgm, hdK_full] at this
              exact this)
          clear HO HH HG HF Hgf Hgp hgo
          go_wp2
          go_ret3
          exact ⟨xo, xc, hg, rfl, _, HE.out.1, HE.out.2.1.sl, HE.out.2.2.sl, hb⟩
end Go.Proofs.YtclkooaepfedaaaDoor
