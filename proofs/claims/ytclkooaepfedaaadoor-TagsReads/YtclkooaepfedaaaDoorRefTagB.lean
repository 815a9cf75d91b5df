/- joistref11.List, spans, free, beside by their contracts. -/
import Derived.Test.YtclkooaepfedaaaDoorTagB
import Derived.Test.YtclkooaepfedaaaDoorRefGapC
import Derived.Deep.RegionHeld3
import Derived.BigQuiet
namespace Go.Proofs.YtclkooaepfedaaaDoor
set_option maxRecDepth 100000
open Go.RowKit
set_option linter.unusedVariables false
set_option linter.unusedSimpArgs false
set_option maxRecDepth 100000

theorem most_sl (w : World) : Sl .i64 (w.alloc (.cells #[.int .i64 4, .int .i64 8, .int .i64 16, .int .i64 32, .int .i64 64, .int .i64 128] 3)) (some ⟨w.heap.size, 0, none⟩) 6 6 mostL := by
  refine ⟨rfl, Nat.le_refl _, (by intro h; cases h), fun _ => ⟨w.heap.size, 0, rfl, by simp, fun i hi => ?_⟩⟩
  rw [Nat.zero_add, cell_of_row _ w.heap.size i _ 3 (0, 0) (heap_alloc_new w _)]
  rcases (show i = 0 ∨ i = 1 ∨ i = 2 ∨ i = 3 ∨ i = 4 ∨ i = 5 by omega) with rfl | rfl | rfl | rfl | rfl | rfl <;> rfl
theorem rlist_any (s : Int) (w : World) :
    Calls Tryd.prog 17 #[.int .i64 s] w fun e w' => e = .returned (.tuple #[.int .i64 (lsN s), .bool (lsB s)]) ∧ Below w.heap.size w w' := by
  by_cases h4 : s < 4
  · have e1 := lsN_small h4
    have e2 : lsB s = false := decide_eq_false (by omega)
    rw [e1, e2]
    go_enter Tryd.func17, Tryd.ntmps17
    go_wp2
    go_ret2
    exact ⟨rfl, Below.refl _ _⟩
  · have e2 : lsB s = true := decide_eq_true (by omega)
    rw [e2]
    have hbA : Below w.heap.size w (w.alloc (.cells #[.int .i64 4, .int .i64 8, .int .i64 16, .int .i64 32, .int .i64 64, .int .i64 128] 3)) := (Below.refl _ _).alloc (Nat.le_refl _) _
    have HS := hid (most_sl w)
    go_enter Tryd.func17, Tryd.ntmps17
    go_wp2
    go_loopw [5] (fun i wr => ∃ k : Nat, k ≤ 6 ∧ i = .int .i64 k ∧ Hid (∀ i, i < k → ¬ s ≤ mostL.getD i 0) ∧ Hid (Sl .i64 wr (some ⟨w.heap.size, 0, none⟩) 6 6 mostL) ∧ Below w.heap.size w wr) (fun i _ => 6 - (intOf i).toNat)
    case atStart => exact ⟨0, Nat.zero_le _, rfl, hid (fun i h => absurd h (by omega)), HS, hbA⟩
    case round =>
      clear HS hbA
      obtain ⟨k, hk, rfl, HN, HS, hb⟩ := hrel
      by_cases hlt : k < 6
      · obtain ⟨b, o, e, _, hc⟩ := HS.out.here (by omega)
        cases e
        have c0 := hc k hlt
        rw [Nat.zero_add] at c0
        have hki : (k : Int) < 6 := by omega
        clear hc
        by_cases hs : s ≤ mostL.getD k 0
        · have HY : Hid ((lsN s : Int) = k) := hid (by rw [lsN_at hlt hs HN.out])
          generalize mostL.getD k 0 = m at *
          clear HN
          go_wp2
          go_ret2
          exact ⟨by rw [HY.out]; rfl, hb⟩
        · have HM : Hid (∀ i, i < k + 1 → ¬ s ≤ mostL.getD i 0) := hid (fun i hi => by
            by_cases c : i < k
            · exact HN.out i c
            · obtain rfl : i = k := by omega
              exact hs)
          generalize mostL.getD k 0 = m at *
          clear HN
          go_wp2
          go_roundw
          case rel => exact ⟨k + 1, by omega, by go_num, HM, HS, hb⟩
          case measure => simp [intOf]; omega
      · obtain rfl : k = 6 := by omega
        have HY : Hid (lsN s = 6) := hid (lsN_end (by have := HN.out 5 (by omega); simpa [mostL] using this))
        clear HN HS
        go_wp2
        go_ret2
        exact ⟨by rw [HY.out]; rfl, hb⟩
/-- 'append(l, e...)' of spans as a step of a region that draws its order. -/
theorem step_append_ps {w : World} {ops : Array Oper} {o : Oper} {a : Act} {K : Act → World → Prop} {Q : Exit → Act → World → Prop} {E : Prop} (hgd : o.guard = none) (s x : Operand)
    (ho : o.op = .call { callee := .builtin .append, args := #[s, x], argTypes := #[52, 52] })
    (B : Nat) (v : Value) (n : Nat) (xs : List Spn) (hs : a.eval s = v) (hown : w.ownsRow B 64 2 v n (cellsP xs)) (hxr : ∀ s ∈ xs, RgP s)
    (ad : Addr) (m c : Nat) (zs : List Spn) (hx : a.eval x = .slice (some ad) m c) (hsl : Ps w (some ad) m c zs) (hb : (n + m) * 16 ≤ 140737488355328) (hB : B ≤ w.heap.size)
    (h : ∀ bo c' w', OwP B w' bo (n + m) c' (xs ++ zs) → w.grownBy w' v.ownBlock → K (a.put o.dst (.slice bo (n + m) c')) w') :
    if Region.wanted o (yielded ops a.tmps) = true then Oper.wp Tryd.prog o a w K Q else E := by
  have hw : Region.wanted o (yielded ops a.tmps) = true := by simp [Region.wanted, hgd]
  rw [if_pos hw]
  obtain ⟨i0, hi, hz0, hz1, hz2⟩ := info_parts Tryd.info64
  have hxl : xs.length = n := by have := hown.1; rw [cellsP_length] at this; omega
  have hzl := hsl.len
  have hcs : ∀ j u, (cellsP zs)[j]? = some u → w.cell? (ad.add j) = some u := by
    intro j u hu
    have hj : 0 < m := by
      have := (List.getElem?_eq_some_iff.1 hu).1
      rw [cellsP_length] at this
      omega
    obtain ⟨b, off, e, _, _⟩ := hsl.here hj
    simp only [Option.some.injEq] at e
    subst e
    have := hsl.part 0 m (by omega) j u (by rw [List.drop_zero, List.take_of_length_le (by omega)]; exact hu)
    simpa using this
  obtain ⟨v', w', hrun, r1, r2, _⟩ := run_append_own (P := Tryd.prog) w B 52 o.type 64 i0 (.agg #[.int .i64 0, .int .i64 0]) 2 16 Tryd.underlying52 hi hz0 hz1 hz2 rfl (by decide) v n _ hown ad m c (cellsP zs) (by rw [cellsP_length, hzl]) hcs (cellsP_one _) (by unfold maxLen; omega) (by omega) hB
  obtain ⟨bo, c', rfl⟩ := own_sliceP r1
  unfold Oper.wp
  simp [execOp, ho, resolve, invoke, builtin, hs, hx, hrun, Result.andThen]
  refine h bo c' w' ⟨by simp [hxl, hzl], by rw [cellsP_append]; exact r1, fun s hs => ?_⟩ r2
  rcases List.mem_append.1 hs with hs | hs
  · exact hxr s hs
  · exact hsl.rg s hs
theorem take_spL {l : List Blk} {k : Nat} (h : k < l.length) : spL (l.take (k + 1)) = spL (l.take k) ++ [(ba l k).spn] := by rw [take_ba h]; simp [spL]
set_option maxHeartbeats 1000000 in
theorem rspans_bs (ao : Option Addr) (n cap : Nat) (l : List Blk) (w : World) (h : Bs w ao n cap l) (hn : n ≤ 100000) :
    Calls Tryd.prog 51 #[.slice ao n cap] w fun e w' => ∃ bo c, e = .returned (.slice bo n c) ∧ OwP w.heap.size w' bo n c (spL l) ∧ Below w.heap.size w w' := by
  have hl := h.len
  go_enter Tryd.func51, Tryd.ntmps51
  go_wp2
  go_loopw [3, 4] (fun s3 s4 wr => ∃ (k : Nat) (bo : Option Addr) (c : Nat), k ≤ n ∧ s4 = .int .i64 k ∧ s3 = .slice bo k c ∧ Hid (OwP w.heap.size wr bo k c (spL (l.take k))) ∧ Below w.heap.size w wr) (fun _ s4 _ => n - (intOf s4).toNat)
  case atStart => exact ⟨0, none, 0, Nat.zero_le _, rfl, rfl, hid (owP_nil _ _), Below.refl _ _⟩
  case round =>
    obtain ⟨k, bo, c, hk, rfl, rfl, HO, hb⟩ := hrel
    by_cases hlt : k < n
    · obtain ⟨b, off, rfl, hbl, _⟩ := h.here (by omega)
      obtain ⟨c0, c1, c2⟩ := h.at hb hlt
      have hrg := h.rgs hlt
      have hki : (k : Int) < (n : Int) := by omega
      have hbw : b < wr.heap.size := Nat.lt_of_lt_of_le hbl hb.size
      have hne : b ≠ wr.heap.size := by omega
      have HT := hid (take_spL (l := l) (k := k) (by omega))
      have bA : Below wr.heap.size wr (wr.alloc (ba l k).spn.obj).drew := ((Below.refl _ _).alloc (Nat.le_refl _) _).drew
      have HP : Hid (Ps (wr.alloc (ba l k).spn.obj).drew (some ⟨wr.heap.size, 0, none⟩) 1 1 [(ba l k).spn]) := hid ((ps_one wr wr.heap.size (ba l k).spn rfl ⟨hrg.p, hrg.z⟩).below (Below.refl _ _).drew)
      have oA := HO.out.below bA
      have Hsz : Hid (w.heap.size ≤ (wr.alloc (ba l k).spn.obj).drew.heap.size) := hid (Nat.le_trans hb.size bA.size)
      have HB : Hid (∀ w', (wr.alloc (ba l k).spn.obj).drew.grownBy w' (Value.slice bo k c).ownBlock → Below w.heap.size w w') := fun w' hg => (next hb bA).grown hg (Nat.le_trans hb.size bA.size) (fun j hj => (HO.out.row.lt j hj).1)
      have HX := hid oA.row
      have HR := hid oA.rg
      have Hcl : Hid (∀ w', Below w.heap.size w w' → w'.cell? ⟨b, off + k * 3, none⟩ = some (.int .i64 (ba l k).pos) ∧ w'.cell? ⟨b, off + k * 3 + 1, none⟩ = some (.int .i64 (ba l k).sz)) := hid (fun w' hb' => ⟨(h.at hb' hlt).c0, (h.at hb' hlt).c1⟩)
      have h16 : (k + 1) * 16 ≤ 140737488355328 := by omega
      clear h hrg HO oA
      generalize spL (l.take k) = L at *
      generalize ba l k = s at *
      obtain ⟨p, z, x⟩ := s
      simp only [Blk.spn, Spn.obj] at *
      go_wp2
      go_region_held3 (fun w' => w'.cell? ⟨b, off + k * 3, none⟩ = some (.int .i64 p) ∧ w'.cell? ⟨b, off + k * 3 + 1, none⟩ = some (.int .i64 z)) (go_keep) (first
        | (refine step_append_ps rfl (.tmp 11) (.tmp 23) rfl w.heap.size (.slice bo k c) k L rfl HX.out HR.out ⟨wr.heap.size, 0, none⟩ 1 1 [⟨p, z⟩] rfl HP.out h16 Hsz.out ?_; intro bo2 c2' w2 ho2 hg2; have bw := HB.out w2 hg2; obtain ⟨t0, t1⟩ := Hcl.out w2 bw))
      go_wp2
      go_roundw
      case rel => exact ⟨k + 1, bo2, c2', by omega, by go_num, rfl, by rw [HT.out]; exact ho2, bw⟩
      case measure => simp [intOf]; omega
    · obtain rfl : k = n := by omega
      have hki : ¬ ((k : Int) < (k : Int)) := by omega
      have HO' := HO.out
      rw [List.take_of_length_le (by omega)] at HO'
      have HO2 := hid HO'
      clear HO HO'
      go_wp2
      go_ret
      exact ⟨_, _, rfl, HO2.out, hb⟩
theorem rfree_bs (f t : Int) (ao : Option Addr) (n cap : Nat) (l : List Blk) (w : World) (h : Bs w ao n cap l) (hn : n ≤ 100000) (hr : RightP f t (spL l)) :
    Calls Tryd.prog 33 #[.int .i64 f, .int .i64 t, .slice ao n cap] w fun e w' => ∃ bo m c, e = .returned (.slice bo m c) ∧ OwP w.heap.size w' bo m c (gapsL f t (spL l)) ∧ Below w.heap.size w w' := by
  have cS := rspans_bs ao n cap l w h hn
  have cG : ∀ w1 so sc, Below w.heap.size w w1 → OwP w.heap.size w1 so n sc (spL l) → Calls Tryd.prog 53 #[.int .i64 f, .int .i64 t, .slice so n sc] w1 fun e w' => ∃ bo m c, e = .returned (.tuple #[.slice bo m c, .int .i64 0]) ∧ OwP w.heap.size w' bo m c (gapsL f t (spL l)) ∧ Below w.heap.size w w' := fun w1 so sc hb h1 => by
    refine (rgapsP_ps f t so n sc (spL l) w1 h1.ps (by omega)).mono ?_
    rintro e w' ⟨bo, m, c, rfl, k1, k2⟩
    rw [(gp_t hr).2]
    rw [(gp_t hr).1] at k1
    exact ⟨bo, m, c, rfl, k1.mono hb.size, next hb k2⟩
  clear h hr
  go_enter Tryd.func33, Tryd.ntmps33
  go_wp2_with (first
    | (go_at_call 51; with_reducible refine cS.mono ?_; rintro e w1 ⟨so, sc, rfl, h1, hb1⟩)
    | (go_at_call 53; with_reducible refine (cG w1 so sc hb1 h1).mono ?_; rintro e w2 ⟨go, gm, gc, rfl, hg2, hb2⟩))
  go_ret
  exact ⟨_, _, _, rfl, hg2, hb2⟩
end Go.Proofs.YtclkooaepfedaaaDoor
