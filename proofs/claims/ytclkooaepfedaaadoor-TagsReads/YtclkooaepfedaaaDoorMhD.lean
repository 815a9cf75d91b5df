/- RefTagF · RefTagG · TagT: these texts, one behind another. -/
import Derived.Test.YtclkooaepfedaaaDoorTagS
import Derived.Test.YtclkooaepfedaaaDoorMhC
import Derived.Test.YtclkooaepfedaaaDoorRefGet
import Derived.Test.YtclkooaepfedaaaDoorRefGapB
import Derived.Test.YtclkooaepfedaaaDoorSame
/- joistref11.Read by its contract: what its round keeps. -/
namespace Go.Proofs.YtclkooaepfedaaaDoor
set_option maxRecDepth 100000
open Go.RowKit
set_option linter.unusedVariables false
set_option linter.unusedSimpArgs false

/-- Whatever chain there is goes on from here. -/
def RI (f t : Int) (zs : List Int) (acc : List Blk) (a : Int) : Prop := ∀ L, Chain f t zs f L → ∃ r, L = acc ++ r ∧ Chain f t zs a r
theorem RI.zero (f t : Int) (zs : List Int) : RI f t zs [] f := fun L h => ⟨L, by simp, h⟩
theorem RI.free {f t : Int} {zs : List Int} {acc : List Blk} {a x z : Int} (h : RI f t zs acc a) (ha : a < t) (hx : getN zs (a - f) = x) (hz : x / 64 = z) (hr : x % 64 = 0) : RI f t zs acc (a + z) := fun L hL => by
  obtain ⟨r, e, hc⟩ := h L hL
  refine ⟨r, e, ?_⟩
  cases hc with
  | done => omega
  | free h0 h1 h2 h3 h4 h5 => rw [hx] at h1; subst h1; rw [hz] at h5; exact h5
  | used h0 h1 h2 h3 h4 h5 => rw [hx] at h1; subst h1; omega
theorem RI.used {f t : Int} {zs : List Int} {acc : List Blk} {a x z r : Int} (h : RI f t zs acc a) (ha : a < t) (hx : getN zs (a - f) = x) (hz : x / 64 = z) (hr : x % 64 = r) (hr0 : 0 < r) : RI f t zs (acc ++ [⟨a, z, r - 1⟩]) (a + z) := fun L hL => by
  obtain ⟨r', e, hc⟩ := h L hL
  cases hc with
  | done => omega
  | free h0 h1 h2 h3 h4 h5 => rw [hx] at h1; subst h1; omega
  | used h0 h1 h2 h3 h4 h5 =>
    rw [hx] at h1
    subst h1
    rw [hz, hr] at e
    rw [hz] at h5
    exact ⟨_, by rw [e, List.append_assoc]; rfl, h5⟩
theorem RI.stop {f t : Int} {zs : List Int} {acc : List Blk} {a x z : Int} (h : RI f t zs acc a) (hl : (zs.length : Int) = 8 * (t - f)) (ha : a < t) (hx : getN zs (a - f) = x) (hz : x / 64 = z) (hb : z < 4 ∨ t - a < z) : ¬ ∃ L, Chain f t zs f L := fun ⟨L, hL⟩ => by
  obtain ⟨r, _, hc⟩ := h L hL
  cases hc with
  | done => omega
  | free h0 h1 h2 h3 h4 h5 =>
    rw [hx] at h1
    subst h1
    rw [hz] at h2 h3
    have := getN_in (zs := zs) (x := a - f + z - 1) (by rw [h3]; omega)
    omega
  | used h0 h1 h2 h3 h4 h5 =>
    rw [hx] at h1
    subst h1
    rw [hz] at h2 h3
    have := getN_in (zs := zs) (x := a - f + z - 1) (by rw [h3]; omega)
    omega
theorem RI.fin {f t : Int} {zs : List Int} {acc : List Blk} (h : RI f t zs acc t) : ∀ L, Chain f t zs f L → L = acc := fun L hL => by
  obtain ⟨r, e, hc⟩ := h L hL
  cases hc with
  | done => simpa using e
  | free h0 => omega
  | used h0 => omega
theorem IsHeap.chain {f t : Int} {zs hs : List Int} {L : List Blk} (h : IsHeap f t zs hs L) : Chain f t zs f L := by
  obtain ⟨ds, h1, _⟩ := h
  exact h1.chain
/-- Rows of the call's own that were cut out of bytes, in a row of the call's own. -/
def sliV (A : Nat → Option Addr) (N C : Nat → Nat) (i : Nat) : Value := .slice (A i) (N i) (C i)
structure CuD (B : Nat) (w : World) (ao : Option Addr) (k cap : Nat) (A : Nat → Option Addr) (N C : Nat → Nat) (f : Int) (zs : List Int) (acc : List Blk) : Prop where
  len : acc.length = k
  row : w.ownsRow B 26 1 (.slice ao k cap) k ((List.range k).map (sliV A N C))
  own : ∀ i, i < k → Own .u8 5 B w (A i) (N i) (C i) (inL f zs (ba acc i))
theorem cuD_nil (B : Nat) (w : World) (A : Nat → Option Addr) (N C : Nat → Nat) (f : Int) (zs : List Int) : CuD B w none 0 0 A N C f zs [] := ⟨rfl, World.ownsRow_nil _ _ _ _, fun i h => absurd h (by omega)⟩
theorem CuD.below {B : Nat} {w w' : World} {ao : Option Addr} {k cap : Nat} {A : Nat → Option Addr} {N C : Nat → Nat} {f : Int} {zs : List Int} {acc : List Blk} (h : CuD B w ao k cap A N C f zs acc) (hb : Below w.heap.size w w') : CuD B w' ao k cap A N C f zs acc := ⟨h.len, ownsRow_below h.row hb, fun i hi => (h.own i hi).below hb⟩
theorem Own.grown {B : Nat} {w w' : World} {ao : Option Addr} {n c : Nat} {zs : List Int} (h : Own .u8 5 B w ao n c zs) {row : Option Nat} (hg : w.grownBy w' row) (hne : ∀ a, ao = some a → some a.block ≠ row) : Own .u8 5 B w' ao n c zs := by
  refine ⟨h.len, h.row.kept hg ?_⟩
  cases ao with
  | none => exact Or.inl rfl
  | some a => exact Or.inr (hne a rfl)
theorem own_far2 {B B' : Nat} {w : World} {ao bo : Option Addr} {n c n' c' : Nat} {zs : List Int} {vs : List Value} (h : Own .u8 5 B w ao n c zs) (h' : w.ownsRow B' 26 1 (.slice bo n' c') n' vs) : ∀ a, ao = some a → some a.block ≠ (Value.slice bo n' c').ownBlock := fun a e e2 => by
  cases bo with
  | none => cases e2
  | some b =>
    rcases h.row.2 with ⟨hv, _⟩ | ⟨g', cap', cur', hv, _, hh, _⟩
    · rw [e] at hv; simp at hv
    · rw [e] at hv
      simp only [Value.slice.injEq, Option.some.injEq] at hv
      have := rows_far h' rfl hh
      rw [hv.1] at e2
      simp [Value.ownBlock] at e2
      exact this e2
theorem ba_left {l : List Blk} {s : Blk} {i : Nat} (h : i < l.length) : ba (l ++ [s]) i = ba l i := by simp [ba, List.getD, List.getElem?_append_left h]
theorem ba_last {l : List Blk} {s : Blk} {i : Nat} (h : l.length = i) : ba (l ++ [s]) i = s := by subst h; simp [ba, List.getD]
theorem CuD.next {B : Nat} {wr w2 w3 : World} {ao bo : Option Addr} {k cap c' : Nat} {A : Nat → Option Addr} {N C : Nat → Nat} {f : Int} {zs : List Int} {acc : List Blk} {s : Blk} {a : Option Addr} {m c : Nat} (h : CuD B wr ao k cap A N C f zs acc) (hb : Below wr.heap.size wr w2) (hl : Own .u8 5 B w2 a m c (inL f zs s))
    (hg : w2.grownBy w3 (Value.slice ao k cap).ownBlock) (ho : w3.ownsRow B 26 1 (.slice bo (k + 1) c') (k + 1) ((List.range k).map (sliV A N C) ++ [.slice a m c])) : CuD B w3 bo (k + 1) c' (upd A k a) (upd N k m) (upd C k c) f zs (acc ++ [s]) := by
  have hr2 := ownsRow_below h.row hb
  have hlen := h.len
  refine ⟨by simp [hlen], ?_, fun i hi => ?_⟩
  · have e : (List.range (k + 1)).map (sliV (upd A k a) (upd N k m) (upd C k c)) = (List.range k).map (sliV A N C) ++ [.slice a m c] := by
      rw [List.range_succ, List.map_append]
      congr 1
      · refine List.map_congr_left fun i hi => ?_
        have : i ≠ k := by have := List.mem_range.1 hi; omega
        simp [sliV, upd_other _ _ _ this]
      · simp [sliV, upd_same]
    rw [e]
    exact ho
  · by_cases e : i = k
    · subst e
      rw [upd_same, upd_same, upd_same, ba_last hlen]
      exact hl.grown hg (own_far2 hl hr2)
    · rw [upd_other _ _ _ e, upd_other _ _ _ e, upd_other _ _ _ e, ba_left (by omega)]
      have h1 := (h.own i (by omega)).below hb
      exact h1.grown hg (own_far2 h1 hr2)
theorem CuD.rd {B : Nat} {w : World} {ao : Option Addr} {k cap : Nat} {A : Nat → Option Addr} {N C : Nat → Nat} {f : Int} {zs : List Int} {acc : List Blk} (h : CuD B w ao k cap A N C f zs acc) (hb : Bytes zs) : Rd w ao k cap A N C (fullD f zs acc) := by
  have hc : k ≤ cap ∧ (ao = none → cap = 0) := by
    rcases h.row.2 with ⟨hv, hn⟩ | ⟨g', cap', cur, hv, hg, hh, hc, _⟩
    · simp only [Value.slice.injEq] at hv
      exact ⟨by omega, fun _ => hv.2.2⟩
    · simp only [Value.slice.injEq] at hv
      obtain ⟨rfl, _, rfl⟩ := hv
      exact ⟨hc, fun e => by cases e⟩
  have hlen := h.len
  refine ⟨by rw [fullD_length, hlen], hc.1, hc.2, fun hn => ?_, fun i hi => ?_, fun i hi => ?_, fun i hi => (h.own i hi).cap_le.2⟩
  · obtain ⟨g, c1, e⟩ := own_shape h.row hn
    simp only [Value.slice.injEq, true_and] at e
    obtain ⟨rfl, _⟩ := e
    refine ⟨g, 0, rfl, (h.row.lt g rfl).2, fun i hi => ?_⟩
    rw [Nat.zero_add, h.row.cellAt i (by omega)]
    simp [hi, sliV]
  · rw [da_full f zs acc (by omega)]
    exact (h.own i hi).sl
  · rw [da_full f zs acc (by omega)]
    exact inL_bytes hb
theorem rows_diff {w : World} {B B' : Nat} {e e' : TypeId} {s s' : Nat} {v v' : Value} {n n' : Nat} {xs xs' : List Value} (h : w.ownsRow B e s v n xs) (h' : w.ownsRow B' e' s' v' n' xs') (hne : e ≠ e') : v.ownBlock = none ∨ v.ownBlock ≠ v'.ownBlock := by
  rcases h.2 with ⟨rfl, _⟩ | ⟨g, cap, cur, rfl, _, hh, _⟩
  · exact Or.inl rfl
  · refine Or.inr fun e1 => ?_
    rcases h'.2 with ⟨rfl, _⟩ | ⟨g', cap', cur', rfl, _, hh', _⟩
    · cases e1
    · simp [Value.ownBlock] at e1
      rw [e1, hh'] at hh
      simp at hh
      exact hne hh.2.symm
theorem CuD.grown {B B' : Nat} {w w' : World} {ao : Option Addr} {k cap : Nat} {A : Nat → Option Addr} {N C : Nat → Nat} {f : Int} {zs : List Int} {acc : List Blk} {v : Value} {n : Nat} {xs : List Value} (h : CuD B w ao k cap A N C f zs acc) (h' : w.ownsRow B' 43 3 v n xs) (hg : w.grownBy w' v.ownBlock) : CuD B w' ao k cap A N C f zs acc :=
  ⟨h.len, h.row.kept hg (rows_diff h.row h' (by decide)), fun i hi => ⟨(h.own i hi).len, (h.own i hi).row.kept hg (rows_diff (h.own i hi).row h' (by decide))⟩⟩
theorem OwB.grown {B B' : Nat} {w w' : World} {ao : Option Addr} {k cap : Nat} {l : List Blk} {v : Value} {n : Nat} {xs : List Value} (h : OwB B w ao k cap l) (h' : w.ownsRow B' 26 1 v n xs) (hg : w.grownBy w' v.ownBlock) : OwB B w' ao k cap l := ⟨h.len, h.row.kept hg (rows_diff h.row h' (by decide)), h.rg⟩
/-- What the document's Read answers. -/
def RRd (f t : Int) (zs hs : List Int) (e : Ending) (w' : World) : Prop :=
  (∃ L, IsHeap f t zs hs L ∧ ∃ bo c dt dc A N C, e = .returned (.tuple #[.slice bo L.length c, .slice dt L.length dc, .bool true]) ∧ Bs w' bo L.length c L ∧ Rd w' dt L.length dc A N C (fullD f zs L)) ∨
  ((¬ ∃ L, IsHeap f t zs hs L) ∧ e = .returned (.tuple #[.slice none 0 0, .slice none 0 0, .bool false]))
end Go.Proofs.YtclkooaepfedaaaDoor
/- joistref11.Read by its contract: the walk. -/
namespace Go.Proofs.YtclkooaepfedaaaDoor
set_option maxRecDepth 100000
open Go.RowKit
set_option linter.unusedVariables false
set_option linter.unusedSimpArgs false
set_option maxRecDepth 100000

theorem no_heap {f t : Int} {zs hs : List Int} (h : ¬ ∃ L, Chain f t zs f L) : ¬ ∃ L, IsHeap f t zs hs L := fun ⟨L, hL⟩ => h ⟨L, hL.chain⟩
set_option maxHeartbeats 8000000 in
theorem rread_any (f t : Int) (ao : Option Addr) (n cap : Nat) (zs : List Int) (ho : Option Addr) (hm hc : Nat) (hs : List Int) (w : World) (h : Sl .u8 w ao n cap zs) (hby : Bytes zs) (hcap : cap ≤ 9223372036854775807) (hn : n ≤ 140737488355328) (hh : Sl .i64 w ho hm hc hs) (hhm : hm ≤ 140737488355328) :
    Calls Tryd.prog 19 #[.int .i64 f, .int .i64 t, .slice ao n cap, .slice ho hm hc] w fun e w' => RRd f t zs hs e w' ∧ Below w.heap.size w w' := by
  have hlen := h.len
  have cR := rrightP_ps f t none 0 0 [] w (ps_nil w) (by omega)
  by_cases hE : EndP f t
  · rw [rightPB_t (l := []) ⟨hE, trivial⟩] at cR
    have hE' := hE
    obtain ⟨hf0, hft, ht2, _, _⟩ := hE
    have w1' : IntKind.i64.wrap (t - f) = t - f := IntWalk.i64_in _ ⟨by omega, by omega⟩
    have w2' : IntKind.i64.wrap (8 * (t - f)) = 8 * (t - f) := IntWalk.i64_in _ ⟨by omega, by omega⟩
    by_cases hl : n = 8 * (t - f).toNat
    · have hnn : ((n : Int) != 8 * (t - f)) = false := by simp; omega
      have HL : Hid ((zs.length : Int) = 8 * (t - f)) := hid (by omega)
      have Hl := hid hl
      have HE := hid hE'
      have H := hid h
      have Hh := hid hh
      clear hl h hh hE' hlen
      go_enter Tryd.func19, Tryd.ntmps19
      go_wp2_with (first
        | (go_at_call 40; with_reducible refine cR.mono ?_; rintro e w1 ⟨rfl, hb1⟩; clear cR))
      go_loopw [12, 13, 14] (fun s12 s13 s14 wr => ∃ (a : Int) (acc : List Blk) (bo : Option Addr) (k c : Nat) (dt : Option Addr) (dc : Nat) (A : Nat → Option Addr) (N C : Nat → Nat), s12 = .slice bo k c ∧ s13 = .slice dt k dc ∧ s14 = .int .i64 a ∧ f ≤ a ∧ a ≤ t ∧ 4 * (k : Int) ≤ a - f ∧ Hid (RI f t zs acc a) ∧ Hid (OwB w.heap.size wr bo k c acc) ∧ Hid (CuD w.heap.size wr dt k dc A N C f zs acc) ∧ Below w.heap.size w wr) (fun _ _ s14 _ => (t - intOf s14).toNat)
      case atStart => exact ⟨f, [], none, 0, 0, none, 0, fun _ => none, fun _ => 0, fun _ => 0, rfl, rfl, rfl, Int.le_refl _, hft, by omega, hid (RI.zero _ _ _), hid (owB_nil _ _), hid (cuD_nil _ _ _ _ _ _ _), hb1⟩
      case round =>
        clear hb1
        obtain ⟨a, acc, bo, k, c, dt, dc, A, N, C, rfl, rfl, rfl, h0, h1, hk, HI, HO, HC, hbr⟩ := hrel
        by_cases hat : a < t
        · obtain ⟨p, hp⟩ : ∃ p : Nat, a - f = (p : Int) := ⟨(a - f).toNat, by omega⟩
          obtain ⟨x, hx⟩ : ∃ x, getN zs (a - f) = x := ⟨_, rfl⟩
          obtain ⟨z, hz⟩ : ∃ z, x / 64 = z := ⟨_, rfl⟩
          obtain ⟨r, hr⟩ : ∃ r, x % 64 = r := ⟨_, rfl⟩
          have xb := getN_bound hby (a - f)
          rw [hx] at xb
          obtain ⟨x0, x1⟩ := xb
          have zb : 0 ≤ z ∧ z ≤ 72057594037927935 := by omega
          have rb : 0 ≤ r ∧ r ≤ 63 := by omega
          have c1 : Calls Tryd.prog 41 #[.slice ao n cap, .int .i64 (p : Int)] wr fun e w'' => e = .returned (.tuple #[.int .i64 x, .bool (getB zs p)]) ∧ wr = w'' := by
            have := refget_any ao n cap zs p wr (H.out.below hbr) hby hn
            have e : getN zs (p : Int) = x := by rw [← hp]; exact hx
            rw [e] at this
            exact this
          have a1 : IntKind.i64.wrap (a - f) = (p : Int) := by rw [hp]; exact IntWalk.i64_in _ ⟨by omega, by omega⟩
          have a2 : IntKind.i64.wrap (t - a) = t - a := IntWalk.i64_in _ ⟨by omega, by omega⟩
          have hx64 : x.tdiv 64 = z := by rw [Int.tdiv_eq_ediv_of_nonneg x0]; exact hz
          have hr64 : x.tmod 64 = r := by rw [Int.tmod_eq_emod_of_nonneg x0]; exact hr
          have HX := hid hx
          have HZ := hid hz
          have HRr := hid hr
          have Hp := hid hp
          have HST : Hid (z < 4 ∨ t - a < z → ¬ ∃ L, IsHeap f t zs hs L) := hid (fun hb => no_heap (HI.out.stop HL.out hat HX.out HZ.out hb))
          generalize getB zs p = g1 at *
          clear hx hz hr hp w1' w2' hnn
          by_cases h4 : z < 4
          · have HB := hid (HST.out (.inl h4))
            clear HST HI HO HC
            go_wp2_with (first
              | (go_at_call 41; with_reducible refine c1.mono ?_; rintro e w' ⟨rfl, rfl⟩; clear c1))
            go_ret3
            exact ⟨.inr ⟨HB.out, rfl⟩, hbr⟩
          · by_cases h5 : t - a < z
            · have HB := hid (HST.out (.inr h5))
              clear HST HI HO HC
              go_wp2_with (first
                | (go_at_call 41; with_reducible refine c1.mono ?_; rintro e w' ⟨rfl, rfl⟩; clear c1))
              go_ret3
              exact ⟨.inr ⟨HB.out, rfl⟩, hbr⟩
            · have w5 : IntKind.i64.wrap (a + z) = a + z := IntWalk.i64_in _ ⟨by omega, by omega⟩
              by_cases hr0 : r = 0
              · have HI2 := hid (HI.out.free hat HX.out HZ.out (by rw [HRr.out]; exact hr0))
                have hr1 : ¬ (0 < r) := by omega
                have Hr0 := hid hr0
                clear HST HI hr0
                go_wp2_with (first
                  | (go_at_call 41; with_reducible refine c1.mono ?_; rintro e w' ⟨rfl, rfl⟩; clear c1))
                go_roundw
                case rel => exact ⟨a + z, acc, bo, k, c, dt, dc, A, N, C, rfl, rfl, rfl, by omega, by omega, by omega, HI2, HO, HC, hbr⟩
                case measure => simp [intOf]; omega
              · have HI2 := hid (HI.out.used hat HX.out HZ.out HRr.out (by omega))
                have hr1 : 0 < r := by omega
                have w4 : IntKind.i64.wrap (r - 1) = r - 1 := IntWalk.i64_in _ ⟨by omega, by omega⟩
                obtain ⟨q, hq⟩ : ∃ q : Nat, (p : Int) + z - 1 = (q : Int) := ⟨((p : Int) + z - 1).toNat, by omega⟩
                have hpq : p + 3 ≤ q ∧ 8 * q + 8 ≤ n ∧ p ≤ 2048 ∧ q ≤ 2048 := by
                  have := Hp.out
                  have := Hl.out
                  omega
                have a3 : IntKind.i64.wrap ((p : Int) + z) = (p : Int) + z := IntWalk.i64_in _ ⟨by omega, by omega⟩
                have a4 : IntKind.i64.wrap ((p : Int) + z - 1) = (q : Int) := by rw [hq]; exact IntWalk.i64_in _ ⟨by omega, by omega⟩
                have hroom := H.out.room
                obtain ⟨g, o, rfl, hgl, _⟩ := H.out.here (by omega)
                have hrg : RgB ⟨a, z, r - 1⟩ := ⟨by unfold Rg; simp only; omega, by unfold Rg; simp only; omega, by unfold Rg; simp only; omega⟩
                have hq8 : 8 * (z - 2).toNat = 8 * q - 8 * (p + 1) := by omega
                have HSL : Hid (∀ w2, Below w.heap.size w w2 → Sl .u8 w2 (some ⟨g, o + 8 * (p + 1), none⟩) (8 * q - 8 * (p + 1)) (cap - 8 * (p + 1)) (inL f zs ⟨a, z, r - 1⟩)) := hid (fun w2 hb2 => by
                  have := sl_inside (t := t) (s := ⟨a, z, r - 1⟩) (p := p) (f := f) (H.out.below hb2) Hl.out (by unfold wd; have := Hp.out; simp only; omega) h0 (by simp only; omega) (by simp only; omega)
                  simp only at this
                  rw [hq8] at this
                  exact this)
                have HCH : Hid ((Bs (wr.alloc (.cells #[.int .i64 a, .int .i64 z, .int .i64 (r - 1)] 43)) (some ⟨wr.heap.size, 0, none⟩) 1 1 [⟨a, z, r - 1⟩] ∧ OwB w.heap.size (wr.alloc (.cells #[.int .i64 a, .int .i64 z, .int .i64 (r - 1)] 43)) bo k c acc ∧ w.heap.size ≤ (wr.alloc (.cells #[.int .i64 a, .int .i64 z, .int .i64 (r - 1)] 43)).heap.size) ∧
                    ∀ w2 bo2 c2, OwB w.heap.size w2 bo2 (k + 1) c2 (acc ++ [⟨a, z, r - 1⟩]) → (wr.alloc (.cells #[.int .i64 a, .int .i64 z, .int .i64 (r - 1)] 43)).grownBy w2 (Value.slice bo k c).ownBlock →
                      ((w2.alloc (.cells #[] 5)).ownsRow w2.heap.size 5 1 (.slice (some ⟨w2.heap.size, 0, none⟩) 0 0) 0 (([] : List Int).map (Value.int .u8)) ∧ Sl .u8 (w2.alloc (.cells #[] 5)) (some ⟨g, o + 8 * (p + 1), none⟩) (8 * q - 8 * (p + 1)) (cap - 8 * (p + 1)) (inL f zs ⟨a, z, r - 1⟩) ∧ w2.heap.size ≤ (w2.alloc (.cells #[] 5)).heap.size) ∧
                      ∀ w3 p3 c3, Own .u8 5 w2.heap.size w3 p3 (8 * q - 8 * (p + 1)) c3 (inL f zs ⟨a, z, r - 1⟩) → (w2.alloc (.cells #[] 5)).grownBy w3 (some w2.heap.size) →
                        ((w3.alloc (.cells #[.slice p3 (8 * q - 8 * (p + 1)) c3] 26)).ownsRow w.heap.size 26 1 (.slice dt k dc) k ((List.range k).map (sliV A N C)) ∧ w.heap.size ≤ (w3.alloc (.cells #[.slice p3 (8 * q - 8 * (p + 1)) c3] 26)).heap.size) ∧
                        ∀ w5 d5 c5, w5.ownsRow w.heap.size 26 1 (.slice d5 (k + 1) c5) (k + 1) ((List.range k).map (sliV A N C) ++ [.slice p3 (8 * q - 8 * (p + 1)) c3]) → (w3.alloc (.cells #[.slice p3 (8 * q - 8 * (p + 1)) c3] 26)).grownBy w5 (Value.slice dt k dc).ownBlock →
                          OwB w.heap.size w5 bo2 (k + 1) c2 (acc ++ [⟨a, z, r - 1⟩]) ∧ CuD w.heap.size w5 d5 (k + 1) c5 (upd A k p3) (upd N k (8 * q - 8 * (p + 1))) (upd C k c3) f zs (acc ++ [⟨a, z, r - 1⟩]) ∧ Below w.heap.size w w5) := hid (by
                  have ba : Below wr.heap.size wr (wr.alloc (.cells #[.int .i64 a, .int .i64 z, .int .i64 (r - 1)] 43)) := (Below.refl _ _).alloc (Nat.le_refl _) _
                  have hba := next hbr ba
                  have o1 := HO.out.below ba
                  refine ⟨⟨bs_one wr ⟨a, z, r - 1⟩ hrg, o1, hba.size⟩, fun w2 bo2 c2 o2 g2 => ?_⟩
                  have hb2 : Below w.heap.size w w2 := hba.grown g2 hba.size (fun b e => (o1.row.lt b e).1)
                  have C2 := (HC.out.below ba).grown o1.row g2
                  have bb : Below w2.heap.size w2 (w2.alloc (.cells #[] 5)) := (Below.refl _ _).alloc (Nat.le_refl _) _
                  refine ⟨⟨World.ownsRow_made w2 #[] 0 (Nat.le_refl _) (Nat.zero_le _) rfl, HSL.out _ (next hb2 bb), bb.size⟩, fun w3 p3 c3 o3 g3 => ?_⟩
                  have b3 : Below w2.heap.size w2 w3 := bb.grown g3 bb.size (fun b e => by cases e; exact Nat.le_refl _)
                  have bc : Below w3.heap.size w3 (w3.alloc (.cells #[.slice p3 (8 * q - 8 * (p + 1)) c3] 26)) := (Below.refl _ _).alloc (Nat.le_refl _) _
                  have b4 := next b3 bc
                  have hb4 := next hb2 b4
                  have C4 := C2.below b4
                  refine ⟨⟨C4.row, hb4.size⟩, fun w5 d5 c5 o5 g5 => ?_⟩
                  refine ⟨(o2.below b4).grown C4.row g5, C2.next b4 ((o3.mono hb2.size).below bc) g5 o5, ?_⟩
                  exact hb4.grown g5 hb4.size (fun b e => (C4.row.lt b e).1))
                have hd2 : (k + 1) * 24 ≤ 140737488355328 := by omega
                have hd3 : 0 + (8 * q - 8 * (p + 1)) ≤ 140737488355328 := by omega
                have s1 : 8 * (p + 1) ≤ 8 * q := by omega
                have s2 : 8 * q ≤ cap := by omega
                have s3 : ¬ cap = 8 * (p + 1) := by omega
                have s4 : ¬ cap - 8 * (p + 1) = 0 := by omega
                have s5 : ¬ cap ≤ 8 * (p + 1) := by omega
                have s6 : ((8 * (p + 1) : Nat) : Int) ≤ ((8 * q : Nat) : Int) := by omega
                have s7 : ((8 * q : Nat) : Int) ≤ (cap : Int) := by omega
                obtain ⟨⟨k1, k2, k3⟩, HN1⟩ := HCH.out
                have K1 := hid k1
                have K2 := hid k2
                have K3 := hid k3
                have HN1 := hid HN1
                have Hq := hid hq
                have Hhq8 := hid hq8
                clear k1 k2 k3 HCH HSL HI HO HC HST hr0 hq hq8 hrg
                go_wp2_with (first
                  | (go_at_call 41; with_reducible refine c1.mono ?_; rintro e w' ⟨rfl, rfl⟩; clear c1)
                  | (at_builtin; refine append_bs rfl (.tmp 61) (.tmp 68) rfl w.heap.size _ k acc rfl K2.out.row K2.out.rg (some ⟨wr.heap.size, 0, none⟩) 1 1 [⟨a, z, r - 1⟩] rfl K1.out hd2 K3.out ?_))
                intro bo2 c2 w2 ho2 hg2
                obtain ⟨⟨k4, k5, k6⟩, HN2⟩ := HN1.out w2 bo2 c2 ho2 hg2
                have K4 := hid k4
                have K5 := hid k5
                have K6 := hid k6
                have HN2 := hid HN2
                clear ho2 hg2 k4 k5 k6 HN1 K1 K2 K3
                go_wp2_with (first
                  | (at_builtin; refine append_sl rfl (.tmp 71) (.tmp 85) rfl w2.heap.size _ 0 [] rfl K4.out _ _ _ _ rfl K5.out hd3 K6.out ?_))
                intro p3 c3 w3 ho3 hg3 hnil
                obtain ⟨⟨k7, k8⟩, HN3⟩ := HN2.out w3 p3 c3 ho3 hg3
                have K7 := hid k7
                have K8 := hid k8
                have HN3 := hid HN3
                clear ho3 hg3 hnil k7 k8 HN2 K4 K5 K6
                go_wp2_with (first
                  | (at_builtin; refine append_rows rfl (.tmp 70) (.tmp 87) rfl w.heap.size _ k _ rfl K7.out (some ⟨w3.heap.size, 0, none⟩) 1 1 [.slice p3 (8 * q - 8 * (p + 1)) c3] rfl rfl (one_cell _) (by intro e; cases e) ?v2 hd2 K8.out ?_))
                case v2 =>
                  intro u hu
                  simp at hu
                  subst hu
                  rfl
                intro d5 c5 w5 ho5 hg5
                obtain ⟨k9, k10, k11⟩ := HN3.out w5 d5 c5 ho5 hg5
                have K9 := hid k9
                have K10 := hid k10
                clear ho5 hg5 HN3 K7 K8 k9 k10
                go_wp2
                go_roundw
                case rel => exact ⟨a + z, _, bo2, k + 1, c2, d5, c5, _, _, _, rfl, rfl, rfl, by omega, by omega, by omega, HI2, K9, K10, k11⟩
                case measure => simp [intOf]; omega
        · obtain rfl : a = t := by omega
          have hat' : ¬ (a < a) := by omega
          have HF := hid HI.out.fin
          have hal := HO.out.len
          have hbs := HO.out.bs
          have hrd := HC.out.rd hby
          have Hbr := hid hbr
          have hk2 : k ≤ 512 := by omega
          by_cases hR : RightP f a (spL acc) ∧ HoldB acc (fullD f zs acc)
          · have cW := rwrite_ok f a bo k c acc dt k dc A N C (fullD f zs acc) wr hbs hrd (by omega) (by omega) hR.1 hR.2
            by_cases hz : HeapB f a acc (fullD f zs acc) zs
            · have HW : Hid (Calls Tryd.prog 12 #[.int .i64 f, .int .i64 a, .slice bo k c, .slice dt k dc] wr fun e w' => ∃ xo xc hg, e = .returned (.tuple #[.slice xo n xc, .slice (some ⟨hg, 0, none⟩) 7 7, .int .i64 0]) ∧ (Sl .u8 w' xo n xc zs ∧ Sl .i64 w' (some ⟨hg, 0, none⟩) 7 7 (hdL (gapsL f a (spL acc)))) ∧ Below wr.heap.size wr w') := hid (by
                refine cW.mono ?_
                rintro e w' ⟨xo, xc, hg, zs', rfl, q1, q2, q3, q4⟩
                obtain rfl := heap_one q1 hz
                rw [← Hl.out] at q2 ⊢
                exact ⟨xo, xc, hg, rfl, ⟨q2, q3⟩, q4⟩)
              have cW2 := HW.out
              have HS : Hid (∀ w3 hg, Below w.heap.size w w3 → Sl .i64 w3 (some ⟨hg, 0, none⟩) 7 7 (hdL (gapsL f a (spL acc))) → Calls Tryd.prog 14 #[.slice (some ⟨hg, 0, none⟩) 7 7, .slice ho hm hc] w3 fun e w' => e = .returned (.bool (hdL (gapsL f a (spL acc)) == hs)) ∧ Below w3.heap.size w3 w') := hid (fun w3 hg hb3 h3 => same_any _ 7 7 _ ho hm hc hs w3 h3 (Hh.out.below hb3) (by omega) hhm)
              have tx : ∀ (w' : World) (x : Option Addr) (m c : Nat), Sl .u8 w' x m c zs → (convert 26 9 (.slice x m c)).run Tryd.prog w' = .ok (.string (strOfNums zs)) w' := fun w' x m c h => h.text Tryd.underlying26 Tryd.underlying5 Tryd.underlying9
              have Tx := hid tx
              by_cases hh : hdL (gapsL f a (spL acc)) = hs
              · have HE2 : Hid (IsHeap f a zs hs acc) := hid ⟨_, hz, hh.symm⟩
                have e1 : (hdL (gapsL f a (spL acc)) == hs) = true := by simpa using hh
                rw [e1] at HS
                have Hbs := hid hbs
                have Hrd := hid hrd
                generalize strOfNums zs = sy at *
                have hss : (sy.toList != sy.toList) = false := by simp
                have H60 := hid hal
                clear cW HW HI HO HC hbs hrd hR hz hh e1 tx hal
                go_wp2_with (first
                  | (go_at_call 12; with_reducible refine cW2.mono ?_; rintro e w3 ⟨xo, xc, hg, rfl, ⟨q2, q3⟩, b3⟩; have hb3 := next Hbr.out b3; have t1 := Tx.out w3 _ _ _ q2; have t2 := Tx.out w3 _ _ _ (H.out.below hb3); have cS := HS.out w3 hg hb3 q3; have B3 := hid b3; clear cW2 q2 q3 b3)
                  | (go_at_call 14; with_reducible refine cS.mono ?_; rintro e w4 ⟨rfl, b4⟩; clear cS))
                go_ret3
                have hal := H60.out
                refine ⟨.inl ⟨acc, HE2.out, bo, c, dt, dc, A, N, C, by rw [hal]; rfl, ?_, ?_⟩, next hb3 b4⟩
                · rw [hal]; exact (Hbs.out.below B3.out).below b4
                · rw [hal]; exact (Hrd.out.below B3.out).below b4
              · have HN : Hid (¬ ∃ L, IsHeap f a zs hs L) := hid (fun ⟨L, hL⟩ => by
                  obtain rfl := HF.out L hL.chain
                  obtain ⟨_, _, h2⟩ := hL
                  exact hh h2.symm)
                have e1 : (hdL (gapsL f a (spL acc)) == hs) = false := by simpa using hh
                rw [e1] at HS
                generalize strOfNums zs = sy at *
                have hss : (sy.toList != sy.toList) = false := by simp
                clear cW HW HI HO HC hbs hrd hR hz hh e1 tx hal
                go_wp2_with (first
                  | (go_at_call 12; with_reducible refine cW2.mono ?_; rintro e w3 ⟨xo, xc, hg, rfl, ⟨q2, q3⟩, b3⟩; have hb3 := next Hbr.out b3; have t1 := Tx.out w3 _ _ _ q2; have t2 := Tx.out w3 _ _ _ (H.out.below hb3); have cS := HS.out w3 hg hb3 q3; have B3 := hid b3; clear cW2 q2 q3 b3)
                  | (go_at_call 14; with_reducible refine cS.mono ?_; rintro e w4 ⟨rfl, b4⟩; clear cS))
                go_ret3
                exact ⟨.inr ⟨HN.out, rfl⟩, next hb3 b4⟩
            · have HN : Hid (¬ ∃ L, IsHeap f a zs hs L) := hid (fun ⟨L, hL⟩ => by
                obtain rfl := HF.out L hL.chain
                exact hz hL.ok.1)
              have HW : Hid (Calls Tryd.prog 12 #[.int .i64 f, .int .i64 a, .slice bo k c, .slice dt k dc] wr fun e w' => ∃ xo m xc hg sx, e = .returned (.tuple #[.slice xo m xc, .slice (some ⟨hg, 0, none⟩) 7 7, .int .i64 0]) ∧ ((convert 26 9 (.slice xo m xc)).run Tryd.prog w' = .ok (.string sx) w' ∧ ¬ sx.toList = (strOfNums zs).toList) ∧ Below wr.heap.size wr w') := hid (by
                refine cW.mono ?_
                rintro e w' ⟨xo, xc, hg, zs', rfl, q1, q2, q3, q4⟩
                refine ⟨xo, _, xc, hg, _, rfl, ⟨q2.text Tryd.underlying26 Tryd.underlying5 Tryd.underlying9, ?_⟩, q4⟩
                have e := ttext_eq (a := zs') (b := zs) (q1.bytes (fun i hi => hrd.bytes i (by omega))) hby
                have hne : ¬ zs' = zs := fun e => by subst e; exact hz q1
                rw [decide_eq_false hne] at e
                simpa using e)
              have cW2 := HW.out
              have Tx : Hid (∀ (w' : World), Below w.heap.size w w' → (convert 26 9 (.slice ao n cap)).run Tryd.prog w' = .ok (.string (strOfNums zs)) w') := hid (fun w' hb => (H.out.below hb).text Tryd.underlying26 Tryd.underlying5 Tryd.underlying9)
              generalize strOfNums zs = sy at *
              clear cW HW HI HO HC hbs hrd hR hz hal
              go_wp2_with (first
                | (go_at_call 12; with_reducible refine cW2.mono ?_; rintro e w3 ⟨xo, xm, xc, hg, sx, rfl, ⟨q2, q3⟩, b3⟩; have hb3 := next Hbr.out b3; have t2 := Tx.out w3 hb3; clear cW2 b3))
              go_ret3
              exact ⟨.inr ⟨HN.out, rfl⟩, hb3⟩
          · have HN : Hid (¬ ∃ L, IsHeap f a zs hs L) := hid (fun ⟨L, hL⟩ => by
              obtain rfl := HF.out L hL.chain
              exact hR ⟨hL.ok.1.right, hL.ok.1.hold⟩)
            have cW := rwrite_bad f a bo k c acc dt k dc A N C (fullD f zs acc) wr hbs hrd (by omega) (by omega) hR
            clear HI HO HC hbs hrd hR hal
            go_wp2_with (first
              | (go_at_call 12; with_reducible refine cW.mono ?_; rintro e w3 ⟨rfl, b3⟩; have hb3 := next Hbr.out b3; clear cW))
            go_ret3
            exact ⟨.inr ⟨HN.out, rfl⟩, hb3⟩
    · have hnn : ((n : Int) != 8 * (t - f)) = true := by simp; omega
      have HN : Hid (¬ ∃ L, IsHeap f t zs hs L) := hid (fun ⟨L, ds, h1, _⟩ => by have := h1.len; omega)
      clear hl h hh hE'
      go_enter Tryd.func19, Tryd.ntmps19
      go_wp2_with (first
        | (go_at_call 40; with_reducible refine cR.mono ?_; rintro e w1 ⟨rfl, hb1⟩))
      go_ret3
      exact ⟨.inr ⟨HN.out, rfl⟩, hb1⟩
  · rw [rightPB_f (l := []) (fun e => hE e.1)] at cR
    have HN : Hid (¬ ∃ L, IsHeap f t zs hs L) := hid (fun ⟨L, ds, h1, _⟩ => hE h1.right.1)
    clear hE h hh
    go_enter Tryd.func19, Tryd.ntmps19
    go_wp2_with (first
      | (go_at_call 40; with_reducible refine cR.mono ?_; rintro e w1 ⟨rfl, hb1⟩))
    go_ret3
    exact ⟨.inr ⟨HN.out, rfl⟩, hb1⟩
end Go.Proofs.YtclkooaepfedaaaDoor
/- What is read, handed to joistlaw01.Owned. -/
namespace Go.Proofs.YtclkooaepfedaaaDoor
set_option maxRecDepth 100000
open Go.RowKit
set_option linter.unusedVariables false
set_option linter.unusedSimpArgs false

theorem few_ints (n : Nat) : ∀ (l : List Int), l.Nodup → (∀ x ∈ l, 0 ≤ x ∧ x < (n : Int)) → l.length ≤ n := by
  induction n with
  | zero =>
    intro l _ hl
    cases l with
    | nil => simp
    | cons a l => have := hl a (by simp); omega
  | succ n ih =>
    intro l hn hl
    have h1 := ih (l.filter (fun x => x != (n : Int))) (hn.filter _) (fun x hx => by
      obtain ⟨h1, h2⟩ := List.mem_filter.1 hx
      have h3 := hl x h1
      have h4 : x ≠ (n : Int) := by simpa using h2
      omega)
    have h2 : l.length ≤ (l.filter (fun x => x != (n : Int))).length + 1 := by
      clear ih hl h1
      induction l with
      | nil => simp
      | cons a l ih2 =>
        obtain ⟨ha, hn'⟩ := List.nodup_cons.1 hn
        by_cases e : a = (n : Int)
        · subst e
          have : l.filter (fun x => x != (n : Int)) = l := List.filter_eq_self.2 (fun x hx => by
            have : x ≠ (n : Int) := fun e => ha (e ▸ hx)
            simpa using this)
          simp [this]
        · have e' : (a != (n : Int)) = true := by simpa using e
          simp only [List.filter_cons, e', if_true, List.length_cons]
          have := ih2 hn'
          omega
    omega
theorem HoldB.few {l : List Blk} {ds : List (List Int)} (h : HoldB l ds) : l.length ≤ 32 := by
  have h1 := few_ints 32 (l.map (·.ix)) (by
    rw [List.nodup_iff_pairwise_ne] 
    rw [List.pairwise_iff_getElem]
    intro i j hi hj hij
    simp only [List.length_map] at hi hj
    have := h.one i j hij hj
    simpa [ba, List.getD, hi, hj] using this) (fun x hx => by
    obtain ⟨s, hs, rfl⟩ := List.mem_map.1 hx
    obtain ⟨i, hi, rfl⟩ := List.getElem_of_mem hs
    have := h.ixs i hi
    simp [ba, List.getD, hi] at this
    exact ⟨this.1, by omega⟩)
  simpa using h1
theorem owned_read {w : World} {B : Nat} {ro : Option Addr} {k cc : Nat} {vs : List Value} {A : Nat → Option Addr} {N C : Nat → Nat} {D : Nat → List Int} {gi n : Nat} {zs : List Int} (hk : k ≤ 100) (hvl : vs.length = k) (hown : w.ownsRow B 26 1 (.slice ro (k + 1) cc) (k + 1) (vs ++ [.slice (some ⟨gi, 0, none⟩) n (n + 1)]))
    (hvs : ∀ i, i < k → vs[i]? = some (.slice (A i) (N i) (C i))) (ho : ∀ i, i < k → Own .u8 5 B w (A i) (N i) (C i) (D i)) (hap : ∀ i j, i < j → j < k → ∀ a b, A i = some a → A j = some b → a.block ≠ b.block) (hl : Lentd w gi zs) (hn : zs.length = n) (hn2 : n ≤ 140737488355328) (hup : B ≤ gi) (hd : ∀ i, i < k → ∀ a, A i = some a → a.block ≠ gi) (hB : B ≤ w.heap.size) :
    Calls Tryd.prog 15 #[.slice ro (k + 1) cc] w fun e w' => e = .returned (.bool true) ∧ Below B w w' := by
  refine owned_rows (A := upd A k (some ⟨gi, 0, none⟩)) (N := upd N k n) (C := upd C k (n + 1)) (G := upd (fun i => blk (A i)) k gi) (by omega) (by omega) hown (fun i hi => ?_) (fun i hi => ?_) (fun i j hij hj h1 h2 => ?_) hB
  · by_cases e : i = k
    · subst e
      rw [upd_same, upd_same, upd_same, List.getElem?_append_right (by omega), hvl]
      simp
    · rw [upd_other _ _ _ e, upd_other _ _ _ e, upd_other _ _ _ e, List.getElem?_append_left (by omega)]
      exact hvs i (by omega)
  · by_cases e : i = k
    · subst e
      rw [upd_same, upd_same, upd_same, upd_same]
      exact (hl.rowd hn hn2).mono hup
    · rw [upd_other _ _ _ e, upd_other _ _ _ e, upd_other _ _ _ e, upd_other _ _ _ e]
      exact (ho i (by omega)).rowb
  · have ei : i ≠ k := by omega
    rw [upd_other _ _ _ ei] at h1
    have si := ((ho i (by omega)).rowb.spot h1).1
    by_cases e : j = k
    · subst e
      rw [upd_same, upd_other _ _ _ ei]
      exact hd i (by omega) _ si
    · rw [upd_other _ _ _ e] at h2
      rw [upd_other _ _ _ e, upd_other _ _ _ ei]
      have sj := ((ho j (by omega)).rowb.spot h2).1
      exact hap i j hij (by omega) _ _ si sj
end Go.Proofs.YtclkooaepfedaaaDoor
