/- pmem's Crash by its contract. -/
import Derived.Test.YtgiippbjieecmaaFlat
import Derived.Deep.RegionLaw
namespace Go.Proofs.Ytgiippbjieecmaa
set_option maxRecDepth 100000
open Go.RowKit Go.Maps

/-- A slice of n truths that can be read. -/
structure Slb (w : World) (ao : Option Addr) (n : Nat) (bs : List Bool) : Prop where
  len : bs.length = n
  here : 0 < n → ∃ b off, ao = some ⟨b, off, none⟩ ∧ b < w.heap.size ∧ ∀ i, i < n → w.cell? ⟨b, off + i, none⟩ = some (.bool (bs.getD i false))
theorem Slb.off {F : Nat → Prop} {w w' : World} {ao : Option Addr} {n : Nat} {bs : List Bool} (h : Slb w ao n bs) (ho : Off F w w') (hno : 0 < n → ∀ c, ao = some c → ¬ F c.block) : Slb w' ao n bs := by
  refine ⟨h.len, fun hn => ?_⟩
  obtain ⟨b, off, e, hlt, hc⟩ := h.here hn
  refine ⟨b, off, e, Nat.lt_of_lt_of_le hlt ho.size, fun i hi => ?_⟩
  rw [World.cell?_of_block (a := ⟨b, off + i, none⟩) (ho.block b hlt (hno hn _ e))]
  exact hc i hi

theorem step_copy_row {ops : Array Oper} {o : Oper} {a : Act} {w : World} {K : Act → World → Prop} {Q : Exit → Act → World → Prop} {E : Prop} (hgd : o.guard = none) (d s : Operand)
    (ho : o.op = .call { callee := .builtin .copy, args := #[d, s], argTypes := #[27, 27] })
    (sb i dLen dCap L sc xb sCap : Nat) (hd : a.eval d = .slice (some ⟨sb, i, none⟩) dLen dCap) (hs : a.eval s = .slice (some ⟨xb, 0, none⟩) 64 sCap)
    (zs ys : List Int) (hown : Own .u8 5 0 w (some ⟨sb, 0, none⟩) L sc zs) (hx : Own .u8 5 0 w (some ⟨xb, 0, none⟩) 64 sCap ys) (hdl : 64 ≤ dLen) (hfit : i + 64 ≤ L)
    (h : ∀ w', Own .u8 5 0 w' (some ⟨sb, 0, none⟩) L sc (splice zs i ys) → w.grownBy w' (some sb) → K (a.put o.dst (goInt 64)) w') :
    if Region.wanted o (yielded ops a.tmps) = true then Oper.wp Try.prog o a w K Q else E := by
  have hw : Region.wanted o (yielded ops a.tmps) = true := by simp [Region.wanted, hgd]
  rw [if_pos hw]
  have hsz : (Try.prog.info? 5).map (·.size) = some 1 := by
    obtain ⟨i0, hi, hz0, hz1, hz2⟩ := info_parts Try.info5
    rw [hi]; simp [hz1]
  have hyl : ys.length = 64 := hx.len
  have hmin : (ys.map (Value.int .u8)).length = Nat.min 64 dLen := by rw [List.length_map, hyl]; exact (Nat.min_eq_left hdl).symm
  obtain ⟨cur, hcur, hsize, _⟩ := hown.block
  have hcap := hown.cap_le
  obtain ⟨r1, r2, r3⟩ := own_copied hown (i := i) (ys := ys) (by omega) hcur
  obtain ⟨b, off, e, _, hc⟩ := hx.sl.here (by omega)
  simp only [Option.some.injEq, Addr.mk.injEq, and_true] at e
  obtain ⟨rfl, rfl⟩ := e
  have hrun := run_copy_row (P := Try.prog) w 27 27 o.type 5 sb i dLen dCap ⟨xb, 0, none⟩ 64 sCap cur 5 (ys.map (Value.int .u8)) Try.underlying27 hsz hcur hmin (fun j v hv => by
        have hj : j < ys.length := by simpa using (List.getElem?_eq_some_iff.1 hv).1
        rw [Addr.add_lit, hc j (by omega)]
        simp only [List.getElem?_map, List.getElem?_eq_getElem hj, Option.map_some, Option.some.injEq] at hv
        subst hv
        simp [List.getD, List.getElem?_eq_getElem hj]) (by simp; omega) (ints_oneCell _ _)
  unfold Oper.wp
  simp only [execOp, ho, resolve, invoke, builtin]
  have e64 : (ys.map (Value.int .u8)).length = 64 := by rw [List.length_map, hyl]
  rw [e64] at hrun r1 r2
  simp [hd, hs, hrun, Result.andThen]
  exact h _ r1 r2

theorem wrap64_small {n : Int} (h0 : 0 ≤ n) (h1 : n ≤ 9223372036854775807) : IntKind.i64.wrap n = n := by
  rw [IntKind.wrap_i64]; omega
theorem MapAt.drew {w : World} {bm N : Nat} {g : Nat → Option Nat} (h : MapAt w bm g N) : MapAt w.drew bm g N := h.kept rfl
theorem look_run {w : World} {bm N : Nat} {g : Nat → Option Nat} (h : MapAt w bm g N) {i l : Nat} (hi : g i = some l) (h9 : i ≤ 9223372036854775807) : (Instr.lookup 75 (.map (some bm)) (.int .i64 (i : Int)) false).run Try.prog w = .ok (.pointer (some ⟨l, 0, none⟩)) w := by
  obtain ⟨D, h⟩ := h
  obtain ⟨v, ps, hrun, hv⟩ := h.own.lookup law3 Try.underlying75 (z := .pointer none) (Try.zeroValue86 _) (zd := ptrD none) (zp := []) rfl (keyOf_int_mk Try.underlying3 (wf_nat h9))
  obtain ⟨o', rfl, e⟩ := ptrR_inv hv
  rw [h.item i] at e
  simp only [Prod.mk.injEq] at e
  have := ptrD_inj e.1
  rw [hi] at this
  subst this
  exact hrun
theorem crashP_bytes {S : St} (h : S.Ok) (keep : List Bool) (k : Nat) : Bytes (crashP S keep k) := by
  unfold crashP
  generalize S.n = n
  induction n with
  | zero => intro z hz; cases hz
  | succ n ih =>
    intro z hz
    simp only [flat, List.mem_append] at hz
    rcases hz with hz | hz
    · exact ih z hz
    · split at hz
      · exact lastOf_bytes h z hz
      · exact bytes_sub h.byt _ _ z hz

theorem DevAt.reseen {w : World} {F : Nat → Prop} {p : Nat} {S : St} {sb sc bm : Nat} {g : Nat → Option Nat} {zs zs' : List Int} (h : DevAt w F p { S with seen := zs } sb sc bm g) (e : zs = zs') : DevAt w F p { S with seen := zs' } sb sc bm g := by subst e; exact h

theorem run_clear_all {w : World} {bm N : Nat} {g : Nat → Option Nat} (h : MapAt w bm g N) :
    ∃ w', (∀ ty, (Builtin.clear_ #[75] ty #[.map (some bm)]).run Try.prog w = .ok (.tuple #[]) w') ∧ MapAt w' bm (fun _ => none) N ∧ w.grownBy w' (some bm) := by
  obtain ⟨es, c, hb⟩ := h.obj
  have hrun : ∀ ty, (Builtin.clear_ #[75] ty #[.map (some bm)]).run Try.prog w = .ok (.tuple #[]) (ChangeMaps.setBlock w bm (.map #[] c)) := fun ty => by
    simp [Builtin.clear_, run_underlying Try.underlying75, MapKept.run_getObj_map hb, MapKept.run_setObj_map _ hb, Result.andThen, ChangeMaps.setBlock]
  refine ⟨_, hrun, ⟨.map [], ⟨#[], c, ChangeMaps.heap_setBlock_same hb _, ⟨by simp, MapKept.stamped_empty c, by simp⟩, Nat.zero_le _, rfl⟩, fun _ => rfl, fun kl h => by simp [Maps.has] at h, fun _ => rfl⟩, ⟨rfl, rfl, rfl, by simp [ChangeMaps.setBlock], fun i _ hi => ChangeMaps.heap_setBlock_other hb _ (fun e => hi (by rw [e]))⟩⟩
theorem DevAt.cleared {w w' : World} {F : Nat → Prop} {p : Nat} {S : St} {sb sc bm : Nat} {g : Nat → Option Nat} (h : DevAt w F p S sb sc bm g) (hg : w.grownBy w' (some bm)) (hm : MapAt w' bm (fun _ => none) S.n) : DevAt w' F p { S with lin := fun _ => none } sb sc bm (fun _ => none) := by
  have old : ∀ k, F k → k ≠ bm → w'.heap[k]? = w.heap[k]? := fun k hk hn => hg.block k (h.bound k hk) (by simpa using hn)
  exact ⟨⟨h.ok.len, h.ok.n0, h.ok.n1, h.ok.a0, h.ok.a1, h.ok.byt, fun j zs fl hj => (by cases hj)⟩, (old p h.fp h.bm_ne.1.symm).trans h.obj, h.fp, h.fs, h.fm, own_same h.seen (old sb h.fs h.bm_ne.2.symm), hm, fun j l hj => (by cases hj), fun _ _ => rfl, fun j j' l h1 => (by cases h1), fun k hk => Nat.lt_of_lt_of_le (h.bound k hk) hg.size⟩
theorem crash_step {wr w4 : World} {F : Nat → Prop} {p : Nat} {S : St} {sb sc bm : Nat} {g : Nat → Option Nat} {bs : List Bool} {k q L QQ : Nat} {zs : List Int} {fl : Bool} (hdk : DevAt wr F p { S with seen := crashP S bs k } sb sc bm g) (hok : S.Ok) (hr : rank S q = k) (hz : S.lin q = some (zs, fl)) (hk : bs.getD k false = false)
    (hL : L = (crashP S bs k).length) (hQ : QQ = 64 * q) (hfit : QQ + 64 ≤ L) (hg : wr.drew.grownBy w4 (some sb)) (ho : Own .u8 5 0 w4 (some ⟨sb, 0, none⟩) L sc (splice (crashP S bs k) QQ zs)) : DevAt w4 F p { S with seen := crashP S bs (k + 1) } sb sc bm g := by
  have h0 : DevAt wr.drew F p { S with seen := crashP S bs k } sb sc bm g := hdk.same (Nat.le_refl _) (fun _ _ => rfl)
  obtain ⟨_, h2, h3⟩ := hok.lin q zs fl hz
  subst hL hQ
  have h1 := h0.seeing (i := 64 * q) (ys := zs) (by rw [h2]; exact hfit) h3 hg ho
  exact h1.reseen (S := S) (crashP_lose hok hr hz hk)
theorem crash_off {w wr w4 : World} {F : Nat → Prop} {sb : Nat} (h : Off F w wr) (hs : F sb) (hg : wr.drew.grownBy w4 (some sb)) : Off F w w4 :=
  (show Off F w wr.drew from ⟨h.os, h.tape, h.output, h.size, h.block⟩).trans (Off.of_grown hg (fun j hj => by cases hj; exact Or.inl hs)) (fun _ h => Or.inl h)
theorem crash_list {wr w4 : World} {F : Nat → Prop} {sb B lb m lc : Nat} {zs : List Int} (h : Own .i64 3 B wr (some ⟨lb, 0, none⟩) m lc zs) (hs : F sb) (hF : ∀ k, F k → k < B) (hg : wr.drew.grownBy w4 (some sb)) : Own .i64 3 B w4 (some ⟨lb, 0, none⟩) m lc zs := by
  have hb := h.base
  have hne : lb ≠ sb := fun e => by have := hF sb hs; omega
  exact own_same h (hg.block lb hb.2 (by simpa using hne))

set_option maxRecDepth 100000 in
theorem crash_loop {w : World} {F : Nat → Prop} {p : Nat} {S : St} {sb sc bm : Nat} {g : Nat → Option Nat} (hd : DevAt w F p S sb sc bm g) (ao : Option Addr) (n cap : Nat) (bs : List Bool) (hk : Slb w ao n bs) (hn9 : n ≤ 9223372036854775807) (hno : 0 < n → ∀ c, ao = some c → ¬ F c.block) :
    Calls Try.prog 30 #[.pointer (some ⟨p, 0, none⟩), .slice ao n cap] w fun e w' => e = .returned (.tuple #[]) ∧ Dev w' F p (crashS S bs) ∧ Goes F w F w' := by
  have hdi := dirty_any ⟨sb, sc, bm, g, hd⟩
  have hok := hd.ok
  have hN := hd.ok.n1
  have hbd := hd.bound
  obtain ⟨m, hm⟩ : ∃ m, m = (dirtyL S).length := ⟨_, rfl⟩
  have hmN : m ≤ 4096 := by
    rw [hm, dirtyL, List.length_map]
    exact Nat.le_trans (List.length_filter_le _ _) (by simp; exact hN)
  have HM : Hid (m = (dirtyL S).length) := hm
  rw [← hm] at hdi
  clear hm
  go_enter Try.func30, Try.ntmps30
  go_wp2_with (go_at_call 27; with_reducible refine hdi.mono ?_; rintro e w1 ⟨lo, lc, rfl, hlo, hbel⟩)
  have hoff1 : Off F w w1 := Off.of_below hbel
  go_loopw [9] (fun c wr => ∃ k : Nat, k ≤ m ∧ c = .int .i64 k ∧ DevAt wr F p { S with seen := crashP S bs k } sb sc bm g ∧ Own .i64 3 w.heap.size wr lo m lc (dirtyL S) ∧ Off F w wr) (fun c _ => m - (RowKit.intOf c).toNat)
  case atStart =>
    refine ⟨0, Nat.zero_le _, rfl, ?_, hlo, hoff1⟩
    have := hd.same hbel.size (fun k hk => hbel.block k (hd.bound k hk))
    exact DevAt.reseen (S := S) (zs := S.seen) this (crashP_start hok bs).symm
  case round =>
    obtain ⟨k, hkm, rfl, hdk, hlk, hoff⟩ := hrel
    by_cases hlt : k < m
    · obtain ⟨q, hq, hqn, hqs, hqr⟩ := dirty_get S (k := k) (by rw [← HM.out]; exact hlt)
      obtain ⟨lb, lc', hsh⟩ := own_shape hlk.row (by omega)
      simp only [Value.slice.injEq] at hsh
      obtain ⟨rfl, _, rfl⟩ := hsh
      have hcell := hlk.at k hlt hq
      have hkj : (k : Int) < m := by omega
      have hlbase := hlk.base
      have hgq : ∃ l, g q = some l := by
        cases hgq : g q with
        | none => rw [hd.void q hgq] at hqs; cases hqs
        | some l => exact ⟨l, rfl⟩
      obtain ⟨l, hgq⟩ := hgq
      obtain ⟨xb, xc, zs, fl, e1, e2, e3, e4, e5, e6⟩ := hdk.lines q l hgq
      obtain ⟨l0, l1, l2⟩ := lin_cells e5
      obtain ⟨c0, c1, c2, c3⟩ := dev_cells hdk.obj
      have hkr := hk.off hoff hno
      have H1 : Hid (S.lin q = some (zs, fl) ∧ rank S q = k) := ⟨e1, hqr⟩
      clear e1 hq hqs hqr
      by_cases hkp : bs.getD k false = true
      · have hkn : k < n := by
          have := hkr.len
          by_cases h : k < n
          · exact h
          · simp [List.getD, List.getElem?_eq_none (show bs.length ≤ k by omega)] at hkp
        obtain ⟨kb, ko, rfl, hkb, hkc⟩ := hkr.here (by omega)
        have hkc1 := hkc k hkn
        rw [hkp] at hkc1
        have hkn2 : ¬ ((n : Int) ≤ k) := by omega
        have H2 : Hid (bs.getD k false = true) := hkp
        have HL : Hid (Own .i64 3 w.heap.size wr (some ⟨lb, 0, none⟩) m lc (dirtyL S)) := hlk
        clear hkc hkr hk hkp hlk
        go_wp2
        go_roundw
        case rel => exact ⟨k + 1, by omega, by go_num, hdk.reseen (crashP_keep H2.out).symm, HL.out, hoff⟩
        case measure => simp [RowKit.intOf]; omega
      · have H2 : Hid (bs.getD k false = false) := hid (by simpa using hkp)
        have HL : Hid (Own .i64 3 w.heap.size wr (some ⟨lb, 0, none⟩) m lc (dirtyL S)) := hlk
        have hlen2 : (crashP S bs k).length = 64 * S.n := crashP_len hok bs k
        obtain ⟨L, hL⟩ : ∃ L, L = (crashP S bs k).length := ⟨_, rfl⟩
        have hown := hdk.seen
        have hcap := hdk.seen.cap_le
        rw [← hL] at c0 hown hcap hlen2
        have hqL : 64 * q + 64 ≤ L := by omega
        have hL9 : L ≤ 262144 := by omega
        have hdl : 64 ≤ L - 64 * q := by omega
        have hsd : Own .u8 5 0 wr.drew (some ⟨sb, 0, none⟩) L sc (crashP S bs k) := own_same hown rfl
        have hxd : Own .u8 5 0 wr.drew (some ⟨xb, 0, none⟩) 64 xc zs := own_same e6 rfl
        have HLL : Hid (L = (crashP S bs k).length) := hL
        obtain ⟨QQ, hQQ⟩ : ∃ QQ, QQ = 64 * q := ⟨_, rfl⟩
        have hwq : IntKind.i64.wrap ((q : Int) * 64) = (QQ : Int) := by rw [wrap64_small (by omega) (by omega)]; omega
        have hscne : ¬ sc = QQ := by omega
        have hb0 : (0 : Int) ≤ QQ := by omega
        have hb1 : (QQ : Int) ≤ L := by omega
        rw [← hQQ] at hdl hqL
        have HQQ : Hid (QQ = 64 * q) := hQQ
        clear hL hlen2 hlk hown hQQ
        by_cases hkn : k < n
        · obtain ⟨kb, ko, rfl, hkb, hkc⟩ := hkr.here (by omega)
          have hkc1 := hkc k hkn
          rw [H2.out] at hkc1
          have hkn2 : ¬ ((n : Int) ≤ k) := by omega
          clear hkc hkr hk hkp
          go_wp2
          have hlook : (Instr.lookup 75 (.map (some bm)) (.int .i64 (q : Int)) false).run Try.prog wr.drew = .ok (.pointer (some ⟨l, 0, none⟩)) wr.drew := look_run hdk.map.drew hgq (by omega)
          go_region_law (refine step_copy_row rfl (.tmp 31) (.tmp 40) rfl sb QQ (L - QQ) (sc - QQ) L sc xb xc rfl rfl (crashP S bs k) zs hsd hxd hdl hqL ?_; intro w4 ho4 hg4)
          all_goals
            go_wp2
            go_roundw
            case rel => exact ⟨k + 1, by omega, by go_num, crash_step hdk hok H1.out.2 H1.out.1 H2.out HLL.out HQQ.out (by omega) hg4 ho4, crash_list HL.out hdk.fs hbd hg4, crash_off hoff hdk.fs hg4⟩
            case measure => simp [RowKit.intOf]; omega
        · have hkn2 : (n : Int) ≤ k := by omega
          clear hkr hk hkp
          go_wp2
          have hlook : (Instr.lookup 75 (.map (some bm)) (.int .i64 (q : Int)) false).run Try.prog wr.drew = .ok (.pointer (some ⟨l, 0, none⟩)) wr.drew := look_run hdk.map.drew hgq (by omega)
          go_region_law (refine step_copy_row rfl (.tmp 31) (.tmp 40) rfl sb QQ (L - QQ) (sc - QQ) L sc xb xc rfl rfl (crashP S bs k) zs hsd hxd hdl hqL ?_; intro w4 ho4 hg4)
          all_goals
            go_wp2
            go_roundw
            case rel => exact ⟨k + 1, by omega, by go_num, crash_step hdk hok H1.out.2 H1.out.1 H2.out HLL.out HQQ.out (by omega) hg4 ho4, crash_list HL.out hdk.fs hbd hg4, crash_off hoff hdk.fs hg4⟩
            case measure => simp [RowKit.intOf]; omega
    · obtain rfl : k = m := by omega
      have hkj : ¬ ((k : Int) < (k : Int)) := by omega
      obtain ⟨c0, c1, c2, c3⟩ := dev_cells hdk.obj
      obtain ⟨w5, hclr, hm5, hg5⟩ := run_clear_all hdk.map
      have hd5 := hdk.cleared hg5 hm5
      obtain ⟨d0, d1, d2, d3⟩ := dev_cells hd5.obj
      have f2 := dev_frozen hd5.obj 2
      have f3 := dev_frozen hd5.obj 3
      obtain ⟨D6, G6, S6⟩ := hd5.stored 0 (by omega) (by omega)
      obtain ⟨D7, G7, S7⟩ := D6.downed false
      clear hlk hk
      go_wp2
      go_end0
      refine ⟨rfl, ⟨sb, sc, bm, fun _ => none, ?_⟩, ?_, fun _ h => Or.inl h⟩
      · have e1 : crashS S bs = { n := S.n, seen := crashP S bs k, lin := fun _ => none, armed := 0, down := false } := by unfold crashS; rw [← HM.out]
        rw [e1]; exact D7
      · exact hoff.trans (Off.of_grown (F := F) hg5 (fun j hj => by cases hj; exact Or.inl hdk.fm)) (fun _ h => Or.inl h) |>.trans (Off.of_grown (F := F) G6 (fun j hj => by cases hj; exact Or.inl hdk.fp)) (fun _ h => Or.inl h) |>.trans (Off.of_grown (F := F) G7 (fun j hj => by cases hj; exact Or.inl hdk.fp)) (fun _ h => Or.inl h)
end Go.Proofs.Ytgiippbjieecmaa
