/- joistref03's Crash by its contract. -/
import Derived.Test.YtcelmnhdchfhiaaRCrash
namespace Go.Proofs.Ytcelmnhdchfhiaa
open Go.RowKit
set_option linter.unusedVariables false

section
variable {w : World} {G : Nat → Prop} {q : Nat} {R : RSt}
/-- The first k dirty lines, as they are kept. -/
def rcr1 (S : RSt) (keep : List Bool) (k : Nat) (x : Int) : RSt := if keep.getD k false = true then rlast S x.toNat else S
def rcrashN (R : RSt) (l : List Int) (keep : List Bool) : Nat → RSt
  | 0 => R
  | k + 1 => rcr1 (rcrashN R l keep k) keep k (l.getD k 0)
theorem rcr1_n (S : RSt) (keep : List Bool) (k : Nat) (x : Int) : (rcr1 S keep k x).n = S.n := by unfold rcr1; split <;> rfl
theorem rcrashN_n (l : List Int) (keep : List Bool) (k : Nat) : (rcrashN R l keep k).n = R.n := by
  induction k with
  | zero => rfl
  | succ k ih => exact (rcr1_n _ _ _ _).trans ih
def rcrashS (R : RSt) (keep : List Bool) : RSt :=
  { n := R.n, lasts := (rcrashN R (rdirtyN R R.n) keep (rdirtyN R R.n).length).lasts, seen := (rcrashN R (rdirtyN R R.n) keep (rdirtyN R R.n).length).lasts, dirty := List.replicate R.n false, flushed := List.replicate R.n false, armed := 0, down := false }
theorem rdirtyN_at {k : Nat} (hk : k < (rdirtyN R R.n).length) : ∃ x : Nat, (rdirtyN R R.n).getD k 0 = x ∧ x < R.n := by
  have h1 : (rdirtyN R R.n).getD k 0 ∈ rdirtyN R R.n := by
    simp only [List.getD, List.getElem?_eq_getElem hk, Option.getD_some]
    exact List.getElem_mem hk
  unfold rdirtyN at h1 ⊢
  obtain ⟨x, hx, e⟩ := List.mem_map.1 h1
  refine ⟨x, e.symm, ?_⟩
  have := (List.mem_filter.1 hx).1
  simpa using this
/-- Seen anew: other bytes in new memory. -/
theorem RDevAt.reseenTo {lb lc sb sc db fb : Nat} (h : RDevAt w G q R lb lc sb sc db fb) {b c : Nat} {zs : List Int} (hb : ¬ G b) (hbw : b < w.heap.size) (ho : Own .u8 5 0 w (some ⟨b, 0, none⟩) (64 * R.n) c zs) (hz : Bytes zs) :
    RDevAt (w.setCell ⟨q, 1, none⟩ (.slice (some ⟨b, 0, none⟩) (64 * R.n) c)) (fun k => G k ∨ k = b) q { R with seen := zs } lb lc b c db fb ∧ w.grownBy (w.setCell ⟨q, 1, none⟩ (.slice (some ⟨b, 0, none⟩) (64 * R.n) c)) (some q) := by
  obtain ⟨e1, e2, e3⟩ := setCell_obj h.obj 1 (.slice (some ⟨b, 0, none⟩) (64 * R.n) c)
  have hbk : ∀ k, k < w.heap.size → k ≠ q → (w.setCell ⟨q, 1, none⟩ (.slice (some ⟨b, 0, none⟩) (64 * R.n) c)).heap[k]? = w.heap[k]? := fun k hk hn => e2.block k hk (by simpa using hn)
  have hbq : b ≠ q := fun e => hb (e ▸ h.gq)
  exact ⟨⟨⟨h.ok.l0, ho.len, h.ok.l2, h.ok.l3, h.ok.n0, h.ok.n1, h.ok.a0, h.ok.a1, h.ok.b0, hz⟩, e1, Or.inl h.gq, Or.inl h.gl, Or.inr rfl, Or.inl h.gd, Or.inl h.gf, own_same h.lasts (hbk lb (h.bound lb h.gl) h.ne_l), own_same ho (hbk b hbw hbq), (hbk db (h.bound db h.gd) h.ne_d).trans h.dirty, (hbk fb (h.bound fb h.gf) h.ne_f).trans h.flushed, fun e => hb (e ▸ h.gl), h.df, fun k hk => by
    rw [e3]
    rcases hk with hk | hk
    · exact h.bound k hk
    · rw [hk]; exact hbw⟩, e2⟩
theorem RDevAt.redirty {lb lc sb sc db fb : Nat} (h : RDevAt w G q R lb lc sb sc db fb) {b : Nat} {bs : List Bool} (hb : ¬ G b) (hbw : w.heap[b]? = some (boolObj bs)) (hl : bs.length = R.n) :
    RDevAt (w.setCell ⟨q, 2, none⟩ (.slice (some ⟨b, 0, none⟩) R.n R.n)) (fun k => G k ∨ k = b) q { R with dirty := bs } lb lc sb sc b fb ∧ w.grownBy (w.setCell ⟨q, 2, none⟩ (.slice (some ⟨b, 0, none⟩) R.n R.n)) (some q) := by
  obtain ⟨e1, e2, e3⟩ := setCell_obj h.obj 2 (.slice (some ⟨b, 0, none⟩) R.n R.n)
  have hbw' : b < w.heap.size := (Array.getElem?_eq_some_iff.1 hbw).1
  have hbk : ∀ k, k < w.heap.size → k ≠ q → (w.setCell ⟨q, 2, none⟩ (.slice (some ⟨b, 0, none⟩) R.n R.n)).heap[k]? = w.heap[k]? := fun k hk hn => e2.block k hk (by simpa using hn)
  have hbq : b ≠ q := fun e => hb (e ▸ h.gq)
  exact ⟨⟨⟨h.ok.l0, h.ok.l1, hl, h.ok.l3, h.ok.n0, h.ok.n1, h.ok.a0, h.ok.a1, h.ok.b0, h.ok.b1⟩, e1, Or.inl h.gq, Or.inl h.gl, Or.inl h.gs, Or.inr rfl, Or.inl h.gf, own_same h.lasts (hbk lb (h.bound lb h.gl) h.ne_l), own_same h.seen (hbk sb (h.bound sb h.gs) h.ne_s), (hbk b hbw' hbq).trans hbw, (hbk fb (h.bound fb h.gf) h.ne_f).trans h.flushed, h.ls, fun e => hb (e ▸ h.gf), fun k hk => by
    rw [e3]
    rcases hk with hk | hk
    · exact h.bound k hk
    · rw [hk]; exact hbw'⟩, e2⟩
theorem RDevAt.reflush {lb lc sb sc db fb : Nat} (h : RDevAt w G q R lb lc sb sc db fb) {b : Nat} {bs : List Bool} (hb : ¬ G b) (hbw : w.heap[b]? = some (boolObj bs)) (hl : bs.length = R.n) :
    RDevAt (w.setCell ⟨q, 3, none⟩ (.slice (some ⟨b, 0, none⟩) R.n R.n)) (fun k => G k ∨ k = b) q { R with flushed := bs } lb lc sb sc db b ∧ w.grownBy (w.setCell ⟨q, 3, none⟩ (.slice (some ⟨b, 0, none⟩) R.n R.n)) (some q) := by
  obtain ⟨e1, e2, e3⟩ := setCell_obj h.obj 3 (.slice (some ⟨b, 0, none⟩) R.n R.n)
  have hbw' : b < w.heap.size := (Array.getElem?_eq_some_iff.1 hbw).1
  have hbk : ∀ k, k < w.heap.size → k ≠ q → (w.setCell ⟨q, 3, none⟩ (.slice (some ⟨b, 0, none⟩) R.n R.n)).heap[k]? = w.heap[k]? := fun k hk hn => e2.block k hk (by simpa using hn)
  have hbq : b ≠ q := fun e => hb (e ▸ h.gq)
  exact ⟨⟨⟨h.ok.l0, h.ok.l1, h.ok.l2, hl, h.ok.n0, h.ok.n1, h.ok.a0, h.ok.a1, h.ok.b0, h.ok.b1⟩, e1, Or.inl h.gq, Or.inl h.gl, Or.inl h.gs, Or.inl h.gd, Or.inr rfl, own_same h.lasts (hbk lb (h.bound lb h.gl) h.ne_l), own_same h.seen (hbk sb (h.bound sb h.gs) h.ne_s), (hbk db (h.bound db h.gd) h.ne_d).trans h.dirty, (hbk b hbw' hbq).trans hbw, h.ls, fun e => hb (e ▸ h.gd), fun k hk => by
    rw [e3]
    rcases hk with hk | hk
    · exact h.bound k hk
    · rw [hk]; exact hbw'⟩, e2⟩
theorem Try.infoB : (Try.prog.info? 4).map (fun i => (i.zero, i.size, i.bytes)) = some (some (.bool false), 1, 1) := by kernel_rfl
theorem made_bools {w' : World} {b n : Nat} (h : w'.heap[b]? = some (.cells (List.replicate n (Value.bool false)).toArray 4 (0, 0))) : w'.heap[b]? = some (boolObj (List.replicate n false)) := by
  rw [h, boolObj, List.map_replicate]
theorem RDevAt.goesTo {w' : World} {G' : Nat → Prop} (hq : G q) (hg : w.grownBy w' (some q)) (hn : ∀ j, G' j → G j ∨ w.heap.size ≤ j) : Goes G w G' w' := ⟨Off.of_grown hg (fun j hj => by cases hj; exact Or.inl hq), hn⟩
theorem rcrash_lasts_bytes (hd : RDev w G q R) : Bytes R.lasts := hd.ok.b0

/-- Behind the new bytes. -/
def CrA (wr w : World) (G G' : Nat → Prop) (q : Nat) (R : RSt) : Prop := RDev w G' q R ∧ Goes G wr G' w
theorem goes_mk {wr w2 w3 : World} {G' : Nat → Prop} (hb : Below wr.heap.size wr w2) (hg : w2.grownBy w3 (some q)) (hq : G q) (hn : ∀ j, G' j → G j ∨ wr.heap.size ≤ j) : Goes G wr G' w3 :=
  ⟨(Off.of_below (F := G) hb).trans (F' := G) (Off.of_grown hg (fun j hj => by cases hj; exact Or.inl hq)) (fun _ h => Or.inl h), hn⟩
theorem rcr_seen {wr w2 : World} {T : RSt} {N L c2 lb lc sb sc db fb : Nat} {bo : Option Addr} (h : RDevAt wr G q T lb lc sb sc db fb) (hN : T.n = N) (hL : 64 * N = L) (hL0 : 0 < L)
    (hown : Own .u8 5 wr.heap.size w2 bo (0 + L) c2 ([] ++ T.lasts)) (hgr : (wr.alloc (.cells #[] 5)).grownBy w2 (Value.slice (some ⟨wr.heap.size, 0, none⟩) 0 0).ownBlock) (hb0 : Below wr.heap.size wr (wr.alloc (.cells #[] 5)))
    (hmade : (wr.alloc (.cells #[] 5)).ownsRow wr.heap.size 5 1 (.slice (some ⟨wr.heap.size, 0, none⟩) 0 0) 0 (([] : List Int).map (Value.int .u8))) :
    ∃ b v x, ∃ G3 : Nat → Prop, bo = some ⟨b, 0, none⟩ ∧ w2.cell? ⟨q, 1, none⟩ = some v ∧ w2.frozen? ⟨q, 1, none⟩ = false ∧ (w2.setCell ⟨q, 1, none⟩ (.slice (some ⟨b, 0, none⟩) L c2)).cell? ⟨q, 2, none⟩ = some (.slice x N N) ∧ CrA wr (w2.setCell ⟨q, 1, none⟩ (.slice (some ⟨b, 0, none⟩) L c2)) G G3 q { T with seen := T.lasts } := by
  subst hN hL
  rw [Nat.zero_add, List.nil_append] at hown
  have hb2 : Below wr.heap.size wr w2 := hb0.grown hgr hb0.size (fun b hb' => (hmade.lt b hb').1)
  have h2 : RDevAt w2 G q T lb lc sb sc db fb := h.same hb2.size (fun k hk => hb2.block k (h.bound k hk))
  obtain ⟨b, c', hsh⟩ := own_shape hown.row hL0
  simp only [Value.slice.injEq] at hsh
  obtain ⟨rfl, _, rfl⟩ := hsh
  have hbase := hown.base
  have hnG : ¬ G b := fun hb => by have := h.bound b hb; omega
  obtain ⟨c0, c1, _, _, _, _⟩ := rdev_cells h2.obj
  obtain ⟨d3, g3⟩ := h2.reseenTo hnG hbase.2 (hown.mono (Nat.zero_le _)) h.ok.b0
  obtain ⟨_, _, e2, _, _, _⟩ := rdev_cells d3.obj
  exact ⟨b, _, _, _, rfl, c1, rdev_frozen h2.obj 1, e2, ⟨_, _, _, _, _, _, d3⟩, goes_mk hb2 g3 h2.gq (fun j hj => by
    rcases hj with hj | hj
    · exact Or.inl hj
    · exact Or.inr (by omega))⟩
theorem rcr_dirty {wr w3 w4 : World} {G3 : Nat → Prop} {T : RSt} {b N : Nat} (h : CrA wr w3 G G3 q T) (hN : T.n = N) (hm : w4.heap[w3.heap.size]? = some (.cells (List.replicate N (Value.bool false)).toArray 4 (0, 0))) (hb : Below w3.heap.size w3 w4) (hs : w3.heap.size = b) :
    ∃ v, ∃ G5 : Nat → Prop, w4.cell? ⟨q, 2, none⟩ = some v ∧ w4.frozen? ⟨q, 2, none⟩ = false ∧ (w4.setCell ⟨q, 2, none⟩ (.slice (some ⟨b, 0, none⟩) N N)).cell? ⟨q, 2, none⟩ = some (.slice (some ⟨b, 0, none⟩) N N) ∧ CrA wr (w4.setCell ⟨q, 2, none⟩ (.slice (some ⟨b, 0, none⟩) N N)) G G5 q { T with dirty := List.replicate N false } := by
  subst hN hs
  obtain ⟨⟨lb, lc, sb, sc, db, fb, h⟩, hg⟩ := h
  have h4 : RDevAt w4 G3 q T lb lc sb sc db fb := h.same hb.size (fun k hk => hb.block k (h.bound k hk))
  have hnG : ¬ G3 w3.heap.size := fun hb => by have := h.bound _ hb; omega
  obtain ⟨_, _, c2, _, _, _⟩ := rdev_cells h4.obj
  obtain ⟨d5, g5⟩ := h4.redirty hnG (made_bools hm) (by simp)
  obtain ⟨_, _, e2, _, _, _⟩ := rdev_cells d5.obj
  exact ⟨_, _, c2, rdev_frozen h4.obj 2, e2, ⟨_, _, _, _, _, _, d5⟩, hg.trans (goes_mk hb g5 h4.gq (fun j hj => by
    rcases hj with hj | hj
    · exact Or.inl hj
    · exact Or.inr (by omega)))⟩
theorem rcr_flush {wr w3 w4 : World} {G3 : Nat → Prop} {T : RSt} {b N : Nat} (h : CrA wr w3 G G3 q T) (hN : T.n = N) (hm : w4.heap[w3.heap.size]? = some (.cells (List.replicate N (Value.bool false)).toArray 4 (0, 0))) (hb : Below w3.heap.size w3 w4) (hs : w3.heap.size = b) :
    ∃ v v5 v4, ∃ G7 : Nat → Prop, w4.cell? ⟨q, 3, none⟩ = some v ∧ w4.frozen? ⟨q, 3, none⟩ = false ∧ (w4.setCell ⟨q, 3, none⟩ (.slice (some ⟨b, 0, none⟩) N N)).cell? ⟨q, 5, none⟩ = some v5 ∧ (w4.setCell ⟨q, 3, none⟩ (.slice (some ⟨b, 0, none⟩) N N)).frozen? ⟨q, 5, none⟩ = false ∧
      ((w4.setCell ⟨q, 3, none⟩ (.slice (some ⟨b, 0, none⟩) N N)).setCell ⟨q, 5, none⟩ (.bool false)).cell? ⟨q, 4, none⟩ = some v4 ∧ ((w4.setCell ⟨q, 3, none⟩ (.slice (some ⟨b, 0, none⟩) N N)).setCell ⟨q, 5, none⟩ (.bool false)).frozen? ⟨q, 4, none⟩ = false ∧
      Hid (CrA wr (((w4.setCell ⟨q, 3, none⟩ (.slice (some ⟨b, 0, none⟩) N N)).setCell ⟨q, 5, none⟩ (.bool false)).setCell ⟨q, 4, none⟩ (.int .i64 0)) G G7 q { T with flushed := List.replicate N false, down := false, armed := 0 }) := by
  subst hN hs
  obtain ⟨⟨lb, lc, sb, sc, db, fb, h⟩, hg⟩ := h
  have h4 : RDevAt w4 G3 q T lb lc sb sc db fb := h.same hb.size (fun k hk => hb.block k (h.bound k hk))
  have hnG : ¬ G3 w3.heap.size := fun hb => by have := h.bound _ hb; omega
  obtain ⟨_, _, _, c3, _, _⟩ := rdev_cells h4.obj
  obtain ⟨d5, g5⟩ := h4.reflush hnG (made_bools hm) (by simp)
  obtain ⟨_, _, _, _, _, e5⟩ := rdev_cells d5.obj
  have hf5 := rdev_frozen d5.obj 5
  obtain ⟨d6, g6⟩ := d5.downTo false
  obtain ⟨_, _, _, _, e4, _⟩ := rdev_cells d6.obj
  have hf4 := rdev_frozen d6.obj 4
  obtain ⟨d7, g7⟩ := d6.armedTo 0 (Int.le_refl _) (by omega)
  exact ⟨_, _, _, _, c3, rdev_frozen h4.obj 3, e5, hf5, e4, hf4, hid ⟨⟨_, _, _, _, _, _, d7⟩, (hg.trans (goes_mk hb g5 h4.gq (fun j hj => by
    rcases hj with hj | hj
    · exact Or.inl hj
    · exact Or.inr (by omega)))).trans ((d5.goes d5.gq g6).trans (d6.goes d6.gq g7))⟩⟩

set_option maxRecDepth 100000 in
set_option maxHeartbeats 2000000 in
theorem rcrash_any (hd : RDev w G q R) (ao : Option Addr) (m cap : Nat) (bs : List Bool) (hk : Slb w ao m bs) (hm9 : m ≤ 9223372036854775807) (hno : 0 < m → ∀ c, ao = some c → ¬ G c.block) :
    Calls Try.prog 25 #[.pointer (some ⟨q, 0, none⟩), .slice ao m cap] w fun e w' => e = .returned (.tuple #[]) ∧ ∃ G', RDev w' G' q (rcrashS R bs) ∧ Goes G w G' w' := by
  have hn1 := hd.ok.n1
  have hn0 := hd.ok.n0
  have hbd := hd.bound
  have cD := rdirty_any hd
  have hln := rdirtyN_len (R := R) R.n
  have hat := fun k hk => rdirtyN_at (R := R) (k := k) hk
  have HC : Hid (rcrashS R bs = { n := R.n, lasts := (rcrashN R (rdirtyN R R.n) bs (rdirtyN R R.n).length).lasts, seen := (rcrashN R (rdirtyN R R.n) bs (rdirtyN R R.n).length).lasts, dirty := List.replicate R.n false, flushed := List.replicate R.n false, armed := 0, down := false }) := hid rfl
  generalize rdirtyN R R.n = l at *
  obtain ⟨nl, hnl⟩ : ∃ nl, l.length = nl := ⟨_, rfl⟩
  rw [hnl] at cD hln HC
  obtain ⟨i0, hi, hz0, hz1, hz2⟩ := info_parts Try.infoB
  go_enter Try.func25, Try.ntmps25
  go_wp2_with (go_at_call 41; with_reducible refine cD.mono ?_; rintro e w1 ⟨lo, lc, rfl, hlo, hb1⟩)
  have hd1 := hd.below hb1
  go_loopw [5] (fun t wr => ∃ k : Nat, k ≤ nl ∧ t = .int .i64 k ∧ RDev wr G q (rcrashN R l bs k) ∧ Own .i64 3 w.heap.size wr lo nl lc l ∧ Goes G w G wr) (fun t _ => nl - (intOf t).toNat)
  case atStart => exact ⟨0, Nat.zero_le _, rfl, hd1, hlo, Goes.of_below hb1⟩
  case round =>
    clear hd1 hlo hb1 hd cD
    obtain ⟨k, hkn, rfl, hdk, hlk, hg⟩ := hrel
    have hTn : (rcrashN R l bs k).n = R.n := rcrashN_n l bs k
    have HT : Hid (rcrashN R l bs (k + 1) = rcr1 (rcrashN R l bs k) bs k (l.getD k 0)) := hid rfl
    by_cases hlt : k < nl
    · generalize rcrashN R l bs k = T at *
      obtain ⟨x, hx, hxn⟩ := hat k (by omega)
      obtain ⟨lb, lc', hsh⟩ := own_shape hlk.row (by omega)
      simp only [Value.slice.injEq] at hsh
      obtain ⟨rfl, _, rfl⟩ := hsh
      have hcell := hlk.at k hlt hx
      have hlbase := hlk.base
      have hki : (k : Int) < nl := by omega
      have hkr := hk.off hg.off hno
      rw [hx] at HT
      have HL := hid hlk
      have H0 := hid hdk
      by_cases hkp : bs.getD k false = true
      · have hkm : k < m := by
          have := hkr.len
          by_cases h : k < m
          · exact h
          · simp [List.getD, List.getElem?_eq_none (show bs.length ≤ k by omega)] at hkp
        obtain ⟨kb, ko, rfl, _, hkc⟩ := hkr.here (by omega)
        have hkc1 := hkc k hkm
        rw [hkp] at hkc1
        have hkmi : (k : Int) < m := by omega
        have e1 : rcr1 T bs k x = rlast T x := by unfold rcr1; rw [if_pos hkp, Int.toNat_natCast]
        rw [e1] at HT
        have cL := rlasting_any hdk x (by omega)
        have HN : Hid (∀ c, (some (⟨lb, 0, none⟩ : Addr)) = some c → ¬ G c.block) := hid (fun c hc hf => by cases hc; have h1 := hbd _ hf; simp only at h1; omega)
        clear hkc hkr hk hkp hlk hdk e1
        go_wp2_with (first
          | (go_at_call 40; with_reducible refine cL.mono ?_; rintro e w3 ⟨rfl, d3, g3⟩; have o3 := HL.out.off g3.off HN.out; have g13 := hg.trans g3))
        go_roundw
        case rel => exact ⟨k + 1, by omega, by go_num, by rw [HT.out]; exact d3, o3, g13⟩
        case measure => simp [intOf]; omega
      · have hkp' : bs.getD k false = false := by simpa using hkp
        have e1 : rcr1 T bs k x = T := by unfold rcr1; rw [hkp']; rfl
        rw [e1] at HT
        by_cases hkm : k < m
        · obtain ⟨kb, ko, rfl, _, hkc⟩ := hkr.here (by omega)
          have hkc1 := hkc k hkm
          rw [hkp'] at hkc1
          have hkmi : (k : Int) < m := by omega
          clear hkc hkr hk hkp hkp' hlk hdk e1
          go_wp2
          go_roundw
          case rel => exact ⟨k + 1, by omega, by go_num, by rw [HT.out]; exact H0.out, HL.out, hg⟩
          case measure => simp [intOf]; omega
        · have hkmi : ¬ ((k : Int) < m) := by omega
          clear hkr hk hkp hkp' hlk hdk e1
          go_wp2
          go_roundw
          case rel => exact ⟨k + 1, by omega, by go_num, by rw [HT.out]; exact H0.out, HL.out, hg⟩
          case measure => simp [intOf]; omega
    · obtain rfl : k = nl := by omega
      clear hlk hk HT
      generalize rcrashN R l bs k = T at *
      have hokT := hdk.ok
      obtain ⟨lb, lc', sb, sc, db, fb, hdk⟩ := hdk
      have hbT := hdk.bound
      have hb0 : Below wr.heap.size wr (wr.alloc (.cells #[] 5)) := (Below.refl _ _).alloc (Nat.le_refl _) _
      obtain ⟨c0, _, _, _, _, _⟩ := rdev_cells hdk.obj
      have c0' := (hb0.cell (p := ⟨q, 0, none⟩) (hdk.bound q hdk.gq)).trans c0
      have hs := hdk.lasts.sl.below hb0
      have hmade : (wr.alloc (.cells #[] 5)).ownsRow wr.heap.size 5 1 (.slice (some ⟨wr.heap.size, 0, none⟩) 0 0) 0 (([] : List Int).map (Value.int .u8)) := World.ownsRow_made wr #[] 0 (Nat.le_refl _) (Nat.zero_le _) rfl
      have hs0 := hb0.size
      rw [hTn] at c0 c0' hs
      obtain ⟨L, hL⟩ : ∃ L, 64 * R.n = L := ⟨_, rfl⟩
      rw [hL] at c0' hs
      have nL : 0 + L ≤ 140737488355328 := by omega
      have hL0 : 0 < L := by omega
      have b2 : i0.bytes * R.n ≤ 281474976710656 := by rw [hz2]; omega
      have b3 : R.n ≤ maxLen := by unfold maxLen; omega
      have HL := hid hL
      have HD := hid hdk
      clear hL c0 hdk
      have tA : True := trivial
      go_wp2_with (first
        | (at_builtin; refine append_sl rfl (.tmp 31) (.tmp 35) rfl wr.heap.size _ 0 [] rfl hmade _ L _ T.lasts rfl hs nL hs0 ?_; intro bo c2 w2 hown hgr _; rw [Nat.zero_add]; rcases rcr_seen HD.out hTn HL.out hL0 hown hgr hb0 hmade with ⟨b, kv, kx, G3, rfl, k1, k2, k3, D3⟩)
        | (at_make; have _t := tA; refine wpList_make_some _ rfl _ _ 36 rfl 4 i0 (.bool false) Try.underlying36 hi hz0 hz1 rfl .i64 .i64 _ _ R.n R.n rfl rfl rfl rfl (Nat.le_refl _) b2 b3 ?_; intro w4 HG4 hb4; clear tA; rcases rcr_dirty (b := w2.heap.size) D3 hTn HG4.out hb4 (by simp [World.setCell]) with ⟨kv4, G5, k4, k5, k6, D5⟩)
        | (at_make; refine wpList_make_some _ rfl _ _ 36 rfl 4 i0 (.bool false) Try.underlying36 hi hz0 hz1 rfl .i64 .i64 _ _ R.n R.n rfl rfl rfl rfl (Nat.le_refl _) b2 b3 ?_; intro w6 HG6 hb6; rcases rcr_flush (b := w4.heap.size) D5 hTn HG6.out hb6 (by simp [World.setCell]) with ⟨kv7, kv8, kv9, G7, k7, k8, k9, k10, k11, k12, D7⟩))
      go_end0
      refine ⟨rfl, G7, ?_, hg.trans D7.out.2⟩
      have h7 := D7.out.1
      rw [HC.out]
      rw [hTn] at h7
      exact h7
end
end Go.Proofs.Ytcelmnhdchfhiaa
