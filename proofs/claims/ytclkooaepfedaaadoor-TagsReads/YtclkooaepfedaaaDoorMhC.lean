/- TagH · TagI: these texts, one behind another. -/
import Derived.Test.YtclkooaepfedaaaDoorTagG
/- tags.Read by its contract: the walk. -/
namespace Go.Proofs.YtclkooaepfedaaaDoor
set_option maxRecDepth 100000
open Go.RowKit
set_option linter.unusedVariables false
set_option linter.unusedSimpArgs false
set_option maxRecDepth 100000

theorem sl_inside {w : World} {g o n cap p : Nat} {zs : List Int} {f t : Int} {s : Blk} (h : Sl .u8 w (some ⟨g, o, none⟩) n cap zs) (hn : n = 8 * (t - f).toNat) (hp : wd f s.pos = p) (h1 : f ≤ s.pos) (h4 : 4 ≤ s.sz) (h5 : s.sz ≤ t - s.pos) :
    Sl .u8 w (some ⟨g, o + 8 * (p + 1), none⟩) (8 * (s.sz - 2).toNat) (cap - 8 * (p + 1)) (inL f zs s) := by
  have hl := h.len
  have hr := h.room
  have hp' := hp
  unfold wd at hp'
  refine ⟨inL_length (t := t) (by omega) h1 h4 h5, by omega, (by intro e; cases e), fun hm => ?_⟩
  obtain ⟨b, off, e, hlt, hc⟩ := h.here (by omega)
  simp only [Option.some.injEq, Addr.mk.injEq, and_true] at e
  obtain ⟨rfl, rfl⟩ := e
  refine ⟨g, o + 8 * (p + 1), rfl, hlt, fun i hi => ?_⟩
  rw [Nat.add_assoc, hc (8 * (p + 1) + i) (by omega), inL_at hi, hp]
theorem inL_bytes {f : Int} {zs : List Int} {s : Blk} (h : Bytes zs) : Bytes (inL f zs s) := (h.drop _).take _
theorem made_rows (n : Nat) : (madeCells #[Value.slice none 0 0] n).toList = List.replicate n (Value.slice none 0 0) := by rw [toList_madeCells_one]
theorem HeapB.bytes {f t : Int} {l : List Blk} {ds : List (List Int)} {b : List Int} (h : HeapB f t l ds b) (hd : ∀ i, i < l.length → Bytes (da ds i)) : Bytes b := by
  intro z hz
  obtain ⟨j, hj, rfl⟩ := List.getElem_of_mem hz
  have hjg : b.getD j 0 = b[j] := by simp [List.getD, List.getElem?_eq_getElem hj]
  rw [← hjg]
  have hft := h.right.1.2.1
  rw [h.len] at hj
  obtain ⟨p, hp⟩ : ∃ p : Int, p = f + ((j / 8 : Nat) : Int) := ⟨_, rfl⟩
  have wb : ∀ q x, WA b q x → 8 * q ≤ j → j < 8 * q + 8 → 0 ≤ b.getD j 0 ∧ b.getD j 0 ≤ 255 := fun q x hw h0 h1 => by
    have := hw (j - 8 * q) (by omega)
    rw [show 8 * q + (j - 8 * q) = j by omega] at this
    rw [this]
    exact byt_bound _ _
  rcases heap_words h.right (p := p) (by omega) (by omega) with ⟨i, hi, h0, h1⟩ | ⟨i, hi, h0, h1⟩
  · have u := h.used i hi
    have hf := blk_fit h.right hi
    have hdi := hd i hi
    generalize ba l i = s at *
    by_cases c0 : p = s.pos
    · exact wb _ _ u.t0 (by unfold wd; omega) (by unfold wd; omega)
    · by_cases c1 : p = s.pos + s.sz - 1
      · exact wb _ _ u.t1 (by unfold wd; omega) (by unfold wd; omega)
      · have e1 := u.dat (j - 8 * (wd f s.pos + 1)) (by unfold wd; omega)
        rw [show 8 * (wd f s.pos + 1) + (j - 8 * (wd f s.pos + 1)) = j by unfold wd; omega] at e1
        rw [e1]
        exact hdi.at _
  · have u := h.free i hi
    have hf := gap_fit h.right hi
    generalize pa (gapsL f t (spL l)) i = s at *
    unfold Spn.fin at h1
    by_cases c0 : p = s.pos
    · exact wb _ _ u.t0 (by unfold wd; omega) (by unfold wd; omega)
    · by_cases c1 : p = s.pos + s.sz - 1
      · exact wb _ _ u.t1 (by unfold wd; omega) (by unfold wd; omega)
      · by_cases c2 : p = s.pos + 1
        · exact wb _ _ u.w1 (by unfold wd; omega) (by unfold wd; omega)
        · by_cases c3 : p = s.pos + 2
          · exact wb _ _ u.w2 (by unfold wd; omega) (by unfold wd; omega)
          · rw [u.rest j (by unfold wd; omega) (by unfold wd; omega)]
            omega
set_option maxHeartbeats 4000000 in
theorem read_chain (f t : Int) (ao : Option Addr) (n cap : Nat) (zs : List Int) (ho : Option Addr) (hm hc : Nat) (hs : List Int) (L : List Blk) (w : World) (T : Mst w) (h : Sl .u8 w ao n cap zs) (hby : Bytes zs) (hcap : cap ≤ 9223372036854775807) (hh : Sl .i64 w ho hm hc hs) (hhm : hm ≤ 140737488355328) (hE : EndP f t) (hn : n = 8 * (t - f).toNat) (hC : Chain f t zs f L) :
    Calls Tryd.prog 18 #[.int .i64 f, .int .i64 t, .slice ao n cap, .slice ho hm hc] w fun e w' => ReadR f t zs hs L w.heap.size e w' ∧ Below w.heap.size w w' := by
  have hlen := h.len
  have hE' := hE
  obtain ⟨hf0, hft, ht2, _, _⟩ := hE
  obtain ⟨i0, hi, hz0, hz1, hz2⟩ := info_parts Tryd.info26
  have hfit := chain_fit (t := t) (zs := zs) (by omega) hC (Int.le_refl _)
  have cR : Calls Tryd.prog 35 #[.int .i64 f, .int .i64 t, .slice none 0 0] w fun e w' => e = .returned (.bool true) ∧ Below w.heap.size w w' := by
    have := rightP_ps f t none 0 0 [] w (ps_nil w) (by omega)
    rwa [rightPB_t (l := []) ⟨hE', trivial⟩] at this
  have cF : ∀ w1, Below w.heap.size w w1 → Calls Tryd.prog 36 #[.int .i64 f, .int .i64 t, .slice ao n cap] w1 fun e w' => ∃ bo c, e = .returned (.tuple #[.slice bo L.length c, .bool true]) ∧ OwB w.heap.size w' bo L.length c L ∧ 4 * (L.length : Int) ≤ t - f ∧ Below w1.heap.size w1 w' := fun w1 hb1 => by
    refine (follow_fo f t ao n cap zs w1 (h.below hb1) hby hE' hn).mono ?_
    rintro e w' ⟨⟨L', bo, m, c, hC', rfl, hO, h4⟩ | ⟨hno, _⟩, hb⟩
    · obtain rfl := hC.one hC'
      have := hO.len
      subst this
      exact ⟨bo, c, rfl, hO.mono hb1.size, h4, hb⟩
    · exact absurd ⟨L, hC⟩ hno
  have w1' : IntKind.i64.wrap (t - f) = t - f := IntWalk.i64_in _ ⟨by omega, by omega⟩
  have w2' : IntKind.i64.wrap ((t - f) * 8) = (n : Int) := by rw [IntWalk.i64_in _ ⟨by omega, by omega⟩]; omega
  have hnn : ((n : Int) != (n : Int)) = false := by simp
  obtain ⟨M, hM⟩ : ∃ M, L.length = M := ⟨_, rfl⟩
  rw [hM] at cF
  have Hn := hid hn
  clear hn
  go_enter Tryd.func18, Tryd.ntmps18
  go_wp2_with (first
    | (go_at_call 35; with_reducible refine cR.mono ?_; rintro e w1 ⟨rfl, hb1⟩)
    | (go_at_call 36; with_reducible refine (cF w1 hb1).mono ?_; rintro e w2 ⟨uo, uc, rfl, hu2, h4, hb2⟩)
    | (at_make; refine wpList_make_full _ rfl _ _ 23 rfl w2.heap.size 26 i0 (.slice none 0 0) 1 Tryd.underlying23 hi hz0 hz1 .i64 .i64 _ _ M rfl rfl rfl rfl ?b2 ?b3 ?b4 ?_))
  case b2 => rw [hz2]; omega
  case b3 => unfold maxLen; omega
  case b4 => exact Nat.le_refl _
  intro w3 hown hgrow
  rw [made_rows] at hown
  have hb12 := next hb1 hb2
  have hb3 : Below w2.heap.size w2 w3 := (Below.refl _ _).grown hgrow (Nat.le_refl _) (by intro k hk; cases hk)
  have HO3 : Hid (OwD w2.heap.size w3 (some ⟨w2.heap.size, 0, none⟩) M M (fun _ => none) (fun _ => 0) (fun _ => 0) (fullD f zs L) 0) := hid ⟨⟨_, hown, fun i h => absurd h (by omega)⟩, fun i h => absurd h (by omega), fun i h => absurd h (by omega), fun i j _ h => absurd h (by omega)⟩
  have hM2 : M ≤ 512 := by omega
  have HU := hid (hu2.below hb3)
  have hub : ∀ a, uo = some a → a.block < w2.heap.size := fun a e => (hu2.row.lt a.block (by rw [e]; rfl)).2
  have hw2 : w.heap.size ≤ w2.heap.size := hb12.size
  have Hb := hid (next hb12 hb3)
  have hs3 := hb3.size
  clear hown hgrow hi hz0 hz1 hz2 cR cF hb1 hb2 hb12 hb3 hu2 w1' w2' hnn h4
  go_wp2
  go_loopw [46] (fun s wr => ∃ (k : Nat) (A : Nat → Option Addr) (N C : Nat → Nat), k ≤ M ∧ s = .int .i64 k ∧ Hid (OwD w2.heap.size wr (some ⟨w2.heap.size, 0, none⟩) M M A N C (fullD f zs L) k) ∧ Hid (Off (fun j => j = w2.heap.size) w3 wr)) (fun s _ => M - (intOf s).toNat)
  case atStart => exact ⟨0, _, _, _, Nat.zero_le _, rfl, HO3, hid (Off.refl _ _)⟩
  case round =>
    clear HO3
    obtain ⟨k, A, N, C, hk, rfl, HO, HF⟩ := hrel
    have HBr : Hid (Below w.heap.size w wr) := hid (Hb.out.trans (HF.out.below (B := w.heap.size) (fun j hj => by omega) (by have := Hb.out.size; omega)))
    have hUr := HU.out.bs.off HF.out (fun _ c e => by have := hub c e; omega)
    by_cases hlt : k < M
    · obtain ⟨b, off, rfl, hbl, _⟩ := hUr.here (by omega)
      obtain ⟨c0, c1, c2⟩ := hUr.at (Below.refl _ _) hlt
      have hki : (k : Int) < (M : Int) := by omega
      have hgr : w2.heap.size < wr.heap.size := by obtain ⟨vs, h1, _⟩ := HO.out.row; exact (h1.lt _ rfl).2
      obtain ⟨f1, f2, f3⟩ := hfit (ba L k) (ba_mem (by omega))
      obtain ⟨g, o, rfl, hgl, _⟩ := h.here (by have := Hn.out; omega)
      obtain ⟨p, hp⟩ : ∃ p, wd f (ba L k).pos = p := ⟨_, rfl⟩
      have hb1 : Below wr.heap.size wr (wr.alloc (ba L k).obj) := (Below.refl _ _).alloc (Nat.le_refl _) _
      have cI : Calls Tryd.prog 29 #[.slice (some ⟨g, o, none⟩) n cap, .int .i64 f, .agg #[.int .i64 (ba L k).pos, .int .i64 (ba L k).sz, .int .i64 (ba L k).ix]] (wr.alloc (ba L k).obj) fun e w' => e = .returned (.slice (some ⟨g, o + 8 * (p + 1), none⟩) (8 * ((ba L k).sz - 2).toNat) (cap - 8 * (p + 1))) ∧ Below wr.heap.size wr w' :=
        (inside_any g o n cap p f t (ba L k) _ Hn.out h.room hcap hp hf0 f1 f2 f3 ht2).mono (fun e w' ⟨k1, k2⟩ => ⟨k1, next hb1 k2⟩)
      have cC : ∀ w5, Below wr.heap.size wr w5 → Calls Tryd.prog 37 #[.slice (some ⟨g, o + 8 * (p + 1), none⟩) (8 * ((ba L k).sz - 2).toNat) (cap - 8 * (p + 1))] w5 fun e w' => ∃ bo c, e = .returned (.slice bo (8 * ((ba L k).sz - 2).toNat) c) ∧ Own .u8 5 wr.heap.size w' bo (8 * ((ba L k).sz - 2).toNat) c (da (fullD f zs L) k) ∧ Below wr.heap.size wr w' := fun w5 hb5 => by
        refine (cloneB_any ⟨g, o + 8 * (p + 1), none⟩ _ _ (inL f zs (ba L k)) w5 (sl_inside (h.below (HBr.out.trans (hb5.mono (by have := HBr.out.size; omega)))) Hn.out hp f1 f2 f3) (by omega)).mono ?_
        rintro e w' ⟨bo, c, rfl, k1, k2⟩
        rw [da_full f zs L (by omega)]
        exact ⟨bo, c, rfl, k1.mono hb5.size, next hb5 k2⟩
      have HS : Hid (∀ w6 bo m c, Below wr.heap.size wr w6 → Own .u8 5 wr.heap.size w6 bo m c (da (fullD f zs L) k) → OwD w2.heap.size (w6.setCell ⟨w2.heap.size, k, none⟩ (.slice bo m c)) (some ⟨w2.heap.size, 0, none⟩) M M (upd A k bo) (upd N k m) (upd C k c) (fullD f zs L) (k + 1)) := hid (fun w6 bo m c hb6 ho6 => HO.out.next hb6 ho6 hlt (by omega))
      have HQ : Hid (∀ w6, Below wr.heap.size wr w6 → (∃ v, w6.cell? ⟨w2.heap.size, k, none⟩ = some v) ∧ w6.frozen? ⟨w2.heap.size, k, none⟩ = false) := hid (fun w6 hb6 => by
        obtain ⟨vs, h1, _⟩ := HO.out.row
        have h1' := ownsRow_below h1 hb6
        have hvl : vs.length = M := by have := h1.1; omega
        exact ⟨⟨vs[k], by rw [h1'.cellAt k (by omega)]; exact List.getElem?_eq_getElem (by omega)⟩, h1'.frozenAt k⟩)
      have HFF : Hid (∀ w6, Below wr.heap.size wr w6 → ∀ v, Off (fun j => j = w2.heap.size) w3 (w6.setCell ⟨w2.heap.size, k, none⟩ v)) := hid (fun w6 hb6 v => (HF.out.trans (F' := fun _ => False) (Off.of_below hb6) (fun _ h => h.elim)).setCell _ _ rfl)
      clear HO HF HBr hUr h hp f1 f2 f3 hh hfit hb1
      generalize ba L k = s at *
      obtain ⟨ps, z, ix⟩ := s
      simp only [Blk.obj] at *
      generalize 8 * (z - 2).toNat = q at *
      generalize o + 8 * (p + 1) = oo at *
      generalize cap - 8 * (p + 1) = cc at *
      go_wp2_with (first
        | (go_at_call 29; with_reducible refine cI.mono ?_; rintro e w5 ⟨rfl, hb5⟩)
        | (go_at_call 37; with_reducible refine (cC w5 hb5).mono ?_; rintro e w6 ⟨bo6, c6, rfl, ho6, hb6⟩; have K6 := hid ho6; have KB := hid hb6; clear ho6 hb6; obtain ⟨⟨v6, hv6⟩, hf6⟩ := HQ.out w6 KB.out))
      go_roundw
      case rel => exact ⟨k + 1, _, _, _, by omega, by go_num, hid (HS.out _ _ _ _ KB.out K6.out), hid (HFF.out _ KB.out _)⟩
      case measure => simp [intOf]; omega
    · obtain rfl : k = M := by omega
      have hki : ¬ ((k : Int) < (k : Int)) := by omega
      have hgr : w2.heap.size < wr.heap.size := by obtain ⟨vs, h1, _⟩ := HO.out.row; exact (h1.lt _ rfl).2
      have hby2 : ∀ i, i < k → Bytes (da (fullD f zs L) i) := fun i hi => by rw [da_full f zs L (by omega)]; exact inL_bytes hby
      have hRd := HO.out.rd (by rw [fullD_length]; exact hM) hby2
      have T3 : Mst wr := T.kept HBr.out
      have hUo := HU.out.off HF.out (fun c e => by have := hub c e; omega)
      by_cases hR : RightP f t (spL L) ∧ HoldB L (fullD f zs L)
      · have cW := write_ok f t uo k uc L (some ⟨w2.heap.size, 0, none⟩) k k A N C (fullD f zs L) wr T3 hUr hRd (by omega) (by omega) hR.1 hR.2
        rw [← Hn.out] at cW
        have cE : ∀ w4 xg xs, Below wr.heap.size wr w4 → HeapB f t L (fullD f zs L) xs → Own .u8 5 wr.heap.size w4 (some ⟨xg, 0, none⟩) n n xs → Calls Tryd.prog 38 #[.slice (some ⟨xg, 0, none⟩) n n, .slice ao n cap] w4 fun e w' => e = .returned (.bool (decide (xs = zs))) ∧ w4 = w' := fun w4 xg xs hb4 hH hO => by
          have hbw : Below w.heap.size w w4 := HBr.out.trans (hb4.mono HBr.out.size)
          exact equalB_any _ _ _ xs _ _ _ zs w4 hO.sl (h.below hbw) (hH.bytes (fun i hi => hby2 i (by omega))) hby
        have cQ : ∀ w4 hg, Below wr.heap.size wr w4 → Sl .i64 w4 (some ⟨hg, 0, none⟩) 7 7 (hdL (gapsL f t (spL L))) → Calls Tryd.prog 39 #[.slice (some ⟨hg, 0, none⟩) 7 7, .slice ho hm hc] w4 fun e w' => e = .returned (.bool (hdL (gapsL f t (spL L)) == hs)) ∧ Below w4.heap.size w4 w' := fun w4 hg hb4 hS => by
          have hbw : Below w.heap.size w w4 := HBr.out.trans (hb4.mono HBr.out.size)
          exact equalI_any _ _ _ _ _ _ _ hs w4 hS (hh.below hbw) (by omega) hhm
        have e0 : ((0 : Int) != 0) = false := rfl
        by_cases hZ : HeapB f t L (fullD f zs L) zs
        · have cW' := cW.mono (R' := fun e w' => ∃ xg hg, e = .returned (.tuple #[.slice (some ⟨xg, 0, none⟩) n n, .slice (some ⟨hg, 0, none⟩) 7 7, .int .i64 0]) ∧ Own .u8 5 wr.heap.size w' (some ⟨xg, 0, none⟩) n n zs ∧ Sl .i64 w' (some ⟨hg, 0, none⟩) 7 7 (hdL (gapsL f t (spL L))) ∧ Below wr.heap.size wr w') (by
            rintro e w' ⟨xg, hg, xs, rfl, k1, k2, k3, _, k4⟩
            obtain rfl := heap_one k1 hZ
            exact ⟨xg, hg, rfl, k2, k3, k4⟩)
          have dz : decide (zs = zs) = true := by simp
          by_cases hH : hs = hdL (gapsL f t (spL L))
          · have he : (hdL (gapsL f t (spL L)) == hs) = true := by rw [hH]; simp
            have HY : Hid (RdOk f t zs hs L) := hid ⟨hZ, hH⟩
            rw [he] at cQ
            have cE' : ∀ w4 xg, Below wr.heap.size wr w4 → Own .u8 5 wr.heap.size w4 (some ⟨xg, 0, none⟩) n n zs → Calls Tryd.prog 38 #[.slice (some ⟨xg, 0, none⟩) n n, .slice ao n cap] w4 fun e w' => e = .returned (.bool true) ∧ w4 = w' := fun w4 xg h1 h2 => by have := cE w4 xg zs h1 hZ h2; rwa [dz] at this
            have HOk := hid (HO.out)
            have HUk := hid hUo
            clear cE cW dz hH he hZ hR HO HF hUr hRd h hh hfit hUo hby2
            go_wp2_with (first
              | (go_at_call 11; with_reducible refine cW'.mono ?_; rintro e w4 ⟨xg, hg, rfl, k2, k3, hb4⟩)
              | (go_at_call 38; with_reducible refine (cE' w4 xg hb4 k2).mono ?_; rintro e w5 ⟨rfl, rfl⟩)
              | (go_at_call 39; with_reducible refine (cQ w4 hg hb4 k3).mono ?_; rintro e w6 ⟨rfl, hb6⟩))
            go_ret3
            have hb46 := next hb4 hb6
            subst hM
            exact ⟨.inl ⟨HY.out, uo, uc, w2.heap.size, L.length, A, N, C, rfl, HUk.out.below hb46, (HOk.out.below hb46).mono hw2⟩, HBr.out.trans (hb46.mono HBr.out.size)⟩
          · have he : (hdL (gapsL f t (spL L)) == hs) = false := by simpa using fun e => hH e.symm
            have HNO : Hid (¬ RdOk f t zs hs L) := hid (fun hk => hH hk.2)
            rw [he] at cQ
            have cE' : ∀ w4 xg, Below wr.heap.size wr w4 → Own .u8 5 wr.heap.size w4 (some ⟨xg, 0, none⟩) n n zs → Calls Tryd.prog 38 #[.slice (some ⟨xg, 0, none⟩) n n, .slice ao n cap] w4 fun e w' => e = .returned (.bool true) ∧ w4 = w' := fun w4 xg h1 h2 => by have := cE w4 xg zs h1 hZ h2; rwa [dz] at this
            clear cE cW dz hH he hZ hR HO HF hUr hRd h hh hfit hUo hby2
            go_wp2_with (first
              | (go_at_call 11; with_reducible refine cW'.mono ?_; rintro e w4 ⟨xg, hg, rfl, k2, k3, hb4⟩)
              | (go_at_call 38; with_reducible refine (cE' w4 xg hb4 k2).mono ?_; rintro e w5 ⟨rfl, rfl⟩)
              | (go_at_call 39; with_reducible refine (cQ w4 hg hb4 k3).mono ?_; rintro e w6 ⟨rfl, hb6⟩))
            go_ret3
            exact ⟨.inr ⟨HNO.out, rfl⟩, HBr.out.trans ((next hb4 hb6).mono HBr.out.size)⟩
        · have HNO : Hid (¬ RdOk f t zs hs L) := hid (fun hk => hZ hk.1)
          have cE' : ∀ w4 xg xs, Below wr.heap.size wr w4 → HeapB f t L (fullD f zs L) xs → Own .u8 5 wr.heap.size w4 (some ⟨xg, 0, none⟩) n n xs → Calls Tryd.prog 38 #[.slice (some ⟨xg, 0, none⟩) n n, .slice ao n cap] w4 fun e w' => e = .returned (.bool false) ∧ w4 = w' := fun w4 xg xs h1 h2 h3 => by
            have := cE w4 xg xs h1 h2 h3
            rwa [decide_eq_false (fun e => hZ (by have h2' := h2; rwa [e] at h2'))] at this
          clear cE cQ hZ hR HO HF hUr hRd h hh hfit hUo hby2
          go_wp2_with (first
            | (go_at_call 11; with_reducible refine cW.mono ?_; rintro e w4 ⟨xg, hg, xs, rfl, k1, k2, k3, _, hb4⟩; have K1 := hid k1; clear k1)
            | (go_at_call 38; with_reducible refine (cE' w4 xg xs hb4 K1.out k2).mono ?_; rintro e w5 ⟨rfl, rfl⟩))
          go_ret3
          exact ⟨.inr ⟨HNO.out, rfl⟩, HBr.out.trans (hb4.mono HBr.out.size)⟩
      · have cW := write_bad f t uo k uc L (some ⟨w2.heap.size, 0, none⟩) k k A N C (fullD f zs L) wr hUr hRd (by omega) (by omega) hR
        have e0 : ((1 : Int) != 0) = true := rfl
        have HNO : Hid (¬ RdOk f t zs hs L) := hid (fun hk => hR ⟨hk.1.right, hk.1.hold⟩)
        clear HO HF hUr hRd h hh hfit hR
        go_wp2_with (first
          | (go_at_call 11; with_reducible refine cW.mono ?_; rintro e w4 ⟨rfl, hb4⟩))
        go_ret3
        exact ⟨.inr ⟨HNO.out, rfl⟩, HBr.out.trans (hb4.mono HBr.out.size)⟩
end Go.Proofs.YtclkooaepfedaaaDoor
/- tags.Read: what it answers. -/
namespace Go.Proofs.YtclkooaepfedaaaDoor
set_option maxRecDepth 100000
open Go.RowKit
set_option linter.unusedVariables false
set_option linter.unusedSimpArgs false
set_option maxRecDepth 100000

theorem right_nil (f t : Int) : RightP f t [] ↔ EndP f t := ⟨fun h => h.1, fun h => ⟨h, trivial⟩⟩
set_option maxHeartbeats 1000000 in
theorem read_not (f t : Int) (ao : Option Addr) (n cap : Nat) (zs : List Int) (ho : Option Addr) (hm hc : Nat) (w : World) (h : Sl .u8 w ao n cap zs) (hby : Bytes zs) (hn : n ≤ 140737488355328) (hno : ¬ (EndP f t ∧ n = 8 * (t - f).toNat ∧ ∃ L, Chain f t zs f L)) :
    Calls Tryd.prog 18 #[.int .i64 f, .int .i64 t, .slice ao n cap, .slice ho hm hc] w fun e w' => e = .returned (.tuple #[.slice none 0 0, .slice none 0 0, .bool false]) ∧ Below w.heap.size w w' := by
  have cR := rightP_ps f t none 0 0 [] w (ps_nil w) (by omega)
  by_cases hE : EndP f t
  · rw [rightPB_t (l := []) ⟨hE, trivial⟩] at cR
    have hE' := hE
    obtain ⟨hf0, hft, ht2, _, _⟩ := hE
    have w1' : IntKind.i64.wrap (t - f) = t - f := IntWalk.i64_in _ ⟨by omega, by omega⟩
    have w2' : IntKind.i64.wrap ((t - f) * 8) = (t - f) * 8 := IntWalk.i64_in _ ⟨by omega, by omega⟩
    by_cases hl : n = 8 * (t - f).toNat
    · have hnC : ¬ ∃ L, Chain f t zs f L := fun hL => hno ⟨hE', hl, hL⟩
      have hnn : ((n : Int) != (t - f) * 8) = false := by simp; omega
      have cF : ∀ w1, Below w.heap.size w w1 → Calls Tryd.prog 36 #[.int .i64 f, .int .i64 t, .slice ao n cap] w1 fun e w' => ∃ bo m c, e = .returned (.tuple #[.slice bo m c, .bool false]) ∧ Below w1.heap.size w1 w' := fun w1 hb1 => by
        refine (follow_fo f t ao n cap zs w1 (h.below hb1) hby hE' hl).mono ?_
        rintro e w' ⟨⟨L', bo, m, c, hC', rfl, hO, h4⟩ | ⟨_, bo, m, c, rfl⟩, hb⟩
        · exact absurd ⟨L', hC'⟩ hnC
        · exact ⟨bo, m, c, rfl, hb⟩
      have Hl := hid hl
      clear hl hno h hE' hnC
      go_enter Tryd.func18, Tryd.ntmps18
      go_wp2_with (first
        | (go_at_call 35; with_reducible refine cR.mono ?_; rintro e w1 ⟨rfl, hb1⟩)
        | (go_at_call 36; with_reducible refine (cF w1 hb1).mono ?_; rintro e w2 ⟨bo, m, c, rfl, hb2⟩))
      go_ret3
      exact ⟨rfl, next hb1 hb2⟩
    · have hnn : ((n : Int) != (t - f) * 8) = true := by simp; omega
      clear hl hno h hE'
      go_enter Tryd.func18, Tryd.ntmps18
      go_wp2_with (first
        | (go_at_call 35; with_reducible refine cR.mono ?_; rintro e w1 ⟨rfl, hb1⟩))
      go_ret3
      exact ⟨rfl, hb1⟩
  · rw [rightPB_f (l := []) (fun e => hE e.1)] at cR
    clear hE hno h
    go_enter Tryd.func18, Tryd.ntmps18
    go_wp2_with (first
      | (go_at_call 35; with_reducible refine cR.mono ?_; rintro e w1 ⟨rfl, hb1⟩))
    go_ret3
    exact ⟨rfl, hb1⟩
/-- Bytes and heads are those of a heap. -/
def IsHeap (f t : Int) (zs hs : List Int) (L : List Blk) : Prop := ∃ ds, HeapB f t L ds zs ∧ hs = hdL (gapsL f t (spL L))
theorem IsHeap.ok {f t : Int} {zs hs : List Int} {L : List Blk} (h : IsHeap f t zs hs L) : RdOk f t zs hs L := by
  obtain ⟨ds, h1, h2⟩ := h
  exact ⟨h1.full, h2⟩
theorem IsHeap.one {f t : Int} {zs hs : List Int} {L L' : List Blk} (h : IsHeap f t zs hs L) (h' : IsHeap f t zs hs L') : L = L' := by
  obtain ⟨ds, h1, _⟩ := h
  obtain ⟨ds', h1', _⟩ := h'
  exact heap_blocks h1 h1'
theorem read_ok (f t : Int) (ao : Option Addr) (n cap : Nat) (zs : List Int) (ho : Option Addr) (hm hc : Nat) (hs : List Int) (L : List Blk) (w : World) (T : Mst w) (h : Sl .u8 w ao n cap zs) (hby : Bytes zs) (hcap : cap ≤ 9223372036854775807) (hh : Sl .i64 w ho hm hc hs) (hhm : hm ≤ 140737488355328) (hH : IsHeap f t zs hs L) :
    Calls Tryd.prog 18 #[.int .i64 f, .int .i64 t, .slice ao n cap, .slice ho hm hc] w fun e w' => ∃ bo c dg dc A N C, e = .returned (.tuple #[.slice bo L.length c, .slice (some ⟨dg, 0, none⟩) L.length dc, .bool true]) ∧ OwB w.heap.size w' bo L.length c L ∧ OwD w.heap.size w' (some ⟨dg, 0, none⟩) L.length dc A N C (fullD f zs L) L.length ∧ Below w.heap.size w w' := by
  have hok := hH.ok
  have hl := hok.1.len
  have hlen := h.len
  refine (read_chain f t ao n cap zs ho hm hc hs L w T h hby hcap hh hhm hok.1.right.1 (by omega) hok.1.chain).mono ?_
  rintro e w' ⟨⟨_, bo, c, dg, dc, A, N, C, rfl, k1, k2⟩ | ⟨hno, _⟩, hb⟩
  · exact ⟨bo, c, dg, dc, A, N, C, rfl, k1, k2, hb⟩
  · exact absurd hok hno
theorem read_bad (f t : Int) (ao : Option Addr) (n cap : Nat) (zs : List Int) (ho : Option Addr) (hm hc : Nat) (hs : List Int) (w : World) (T : Mst w) (h : Sl .u8 w ao n cap zs) (hby : Bytes zs) (hcap : cap ≤ 9223372036854775807) (hn : n ≤ 140737488355328) (hh : Sl .i64 w ho hm hc hs) (hhm : hm ≤ 140737488355328) (hH : ¬ ∃ L, IsHeap f t zs hs L) :
    Calls Tryd.prog 18 #[.int .i64 f, .int .i64 t, .slice ao n cap, .slice ho hm hc] w fun e w' => e = .returned (.tuple #[.slice none 0 0, .slice none 0 0, .bool false]) ∧ Below w.heap.size w w' := by
  by_cases hc' : EndP f t ∧ n = 8 * (t - f).toNat ∧ ∃ L, Chain f t zs f L
  · obtain ⟨hE, hl, L, hC⟩ := hc'
    refine (read_chain f t ao n cap zs ho hm hc hs L w T h hby hcap hh hhm hE hl hC).mono ?_
    rintro e w' ⟨⟨hok, _⟩ | ⟨_, rfl⟩, hb⟩
    · exact absurd ⟨L, _, hok.1, hok.2⟩ hH
    · exact ⟨rfl, hb⟩
  · exact read_not f t ao n cap zs ho hm hc w h hby hn hc'
end Go.Proofs.YtclkooaepfedaaaDoor
