/- Flat · Crash · Image: these texts, one behind another. -/
import Derived.Test.YtgiippbjieecmaaGreatMgA
import Derived.Test.YtgiippbjieecmaaGreatDirty
import Derived.Deep.RegionLaw
/- Rows of lines; what lasts, and what a crash leaves. -/
namespace Go.Proofs.YtgiippbjieecmaaGreat
set_option maxRecDepth 100000
open Go.RowKit Go.Maps

def flat (f : Nat → List Int) : Nat → List Int
  | 0 => []
  | n + 1 => flat f n ++ f n
theorem flat_len {f : Nat → List Int} (n : Nat) (h : ∀ i, i < n → (f i).length = 64) : (flat f n).length = 64 * n := by
  induction n with
  | zero => rfl
  | succ n ih => simp [flat, ih (fun i hi => h i (by omega)), h n (by omega)]; omega
theorem flat_congr {f f' : Nat → List Int} (n : Nat) (h : ∀ i, i < n → f i = f' i) : flat f n = flat f' n := by
  induction n with
  | zero => rfl
  | succ n ih => simp only [flat]; rw [ih (fun i hi => h i (by omega)), h n (by omega)]
theorem lineAt_flat {f : Nat → List Int} (n i : Nat) (h : ∀ i, i < n → (f i).length = 64) (hi : i < n) : lineAt (flat f n) i = f i := by
  induction n with
  | zero => omega
  | succ n ih =>
    have hl := flat_len n (fun i hi => h i (by omega))
    simp only [flat, lineAt]
    by_cases e : i = n
    · subst e
      rw [List.drop_append, List.drop_of_length_le (by omega), hl, Nat.sub_self]
      simp [List.take_of_length_le (Nat.le_of_eq (h i (by omega)))]
    · have := ih (fun i hi => h i (by omega)) (by omega)
      simp only [lineAt] at this
      rw [List.drop_append_of_le_length (by omega), List.take_append_of_le_length (by simp; omega)]
      exact this
theorem flat_lineAt (zs : List Int) (n : Nat) (h : 64 * n ≤ zs.length) : flat (lineAt zs) n = zs.take (64 * n) := by
  induction n with
  | zero => simp [flat]
  | succ n ih =>
    simp only [flat, lineAt]
    rw [ih (by omega), show 64 * (n + 1) = 64 * n + 64 by omega, List.take_add]
theorem flat_same (zs : List Int) (n : Nat) (h : zs.length = 64 * n) : flat (lineAt zs) n = zs := by
  rw [flat_lineAt zs n (by omega), ← h, List.take_length]
theorem splice_flat {f : Nat → List Int} (n i : Nat) (zs : List Int) (h : ∀ i, i < n → (f i).length = 64) (hz : zs.length = 64) (hi : i < n) : splice (flat f n) (64 * i) zs = flat (fun j => if j = i then zs else f j) n := by
  induction n with
  | zero => omega
  | succ n ih =>
    have hl := flat_len n (fun i hi => h i (by omega))
    have hn := h n (by omega)
    by_cases e : i = n
    · subst e
      have e1 : flat (fun j => if j = i then zs else f j) i = flat f i := flat_congr i (fun j hj => by rw [if_neg (by omega)])
      simp only [flat, e1, if_true]
      unfold splice
      rw [List.take_append_of_le_length (by omega), List.take_of_length_le (by omega), List.drop_of_length_le (by simp; omega)]
      simp
    · have := ih (fun i hi => h i (by omega)) (by omega)
      simp only [flat]
      rw [← this, if_neg (by omega)]
      unfold splice
      rw [List.take_append_of_le_length (by omega), List.drop_append_of_le_length (by omega)]
      simp only [List.append_assoc]

/-- What lasts of line i. -/
def lastOf (S : St) (i : Nat) : List Int := match S.lin i with | some (zs, _) => zs | none => lineAt S.seen i
def lasts (S : St) : List Int := flat (lastOf S) S.n
def imageP (S : St) (left : Nat → Bool) : List Int := flat (fun i => if left i = true then lineAt S.seen i else lastOf S i) S.n
theorem lastOf_len {S : St} (h : S.Ok) {i : Nat} (hi : i < S.n) : (lastOf S i).length = 64 := by
  unfold lastOf
  split
  · rename_i zs fl hl; exact (h.lin i zs fl hl).2.1
  · exact lineAt_len h hi
theorem lastOf_bytes {S : St} (h : S.Ok) {i : Nat} : Bytes (lastOf S i) := by
  unfold lastOf
  split
  · rename_i zs fl hl; exact (h.lin i zs fl hl).2.2
  · exact bytes_sub h.byt _ _
theorem imageP_start {S : St} (h : S.Ok) {left : Nat → Bool} (hl : ∀ j x, S.lin j = some x → left j = true) : imageP S left = S.seen := by
  refine Eq.trans ?_ (flat_same S.seen S.n h.len)
  unfold imageP
  refine flat_congr S.n fun i hi => ?_
  by_cases e : left i = true
  · rw [if_pos e]
  · rw [if_neg e]
    unfold lastOf
    split
    · rename_i zs fl hz; exact absurd (hl i _ hz) e
    · rfl
theorem imageP_end {S : St} {left : Nat → Bool} (hl : ∀ j, left j = false) : imageP S left = lasts S := flat_congr S.n fun i _ => by simp [hl]
theorem imageP_step {S : St} (h : S.Ok) {left : Nat → Bool} {q : Nat} {zs : List Int} {fl : Bool} (hz : S.lin q = some (zs, fl)) : splice (imageP S left) (64 * q) zs = imageP S (strike left q) := by
  obtain ⟨h1, h2, _⟩ := h.lin q zs fl hz
  unfold imageP
  rw [splice_flat S.n q zs (fun i hi => by split; exact lineAt_len h hi; exact lastOf_len h hi) h2 h1]
  refine flat_congr S.n fun i hi => ?_
  by_cases e : i = q
  · subst e; simp [strike, lastOf, hz]
  · simp [strike, e]
theorem imageP_len {S : St} (h : S.Ok) (left : Nat → Bool) : (imageP S left).length = 64 * S.n := flat_len S.n (fun i hi => by split; exact lineAt_len h hi; exact lastOf_len h hi)

/-- How many dirty lines lie ahead of line i. -/
def rank (S : St) (i : Nat) : Nat := ((List.range i).filter (fun j => (S.lin j).isSome)).length
theorem rank_succ (S : St) (i : Nat) : rank S (i + 1) = rank S i + (if (S.lin i).isSome then 1 else 0) := by
  unfold rank
  rw [List.range_succ, List.filter_append, List.length_append]
  congr 1
  by_cases h : (S.lin i).isSome = true
  · simp [h]
  · simp [h]
theorem rank_mono (S : St) {i j : Nat} (h : i ≤ j) : rank S i ≤ rank S j := by
  induction j with
  | zero => obtain rfl : i = 0 := by omega
            exact Nat.le_refl _
  | succ j ih =>
    by_cases e : i = j + 1
    · subst e; exact Nat.le_refl _
    · have := ih (by omega); rw [rank_succ]; omega
theorem rank_inj (S : St) {i j : Nat} (hi : (S.lin i).isSome = true) (hj : (S.lin j).isSome = true) (h : rank S i = rank S j) : i = j := by
  rcases Nat.lt_trichotomy i j with hlt | rfl | hlt
  · have h1 := rank_mono S (show i + 1 ≤ j from hlt)
    rw [rank_succ, if_pos hi] at h1; omega
  · rfl
  · have h1 := rank_mono S (show j + 1 ≤ i from hlt)
    rw [rank_succ, if_pos hj] at h1; omega
theorem dirty_len (S : St) : (dirtyL S).length = rank S S.n := by simp [dirtyL, rank]
theorem dirty_get_of (S : St) (n : Nat) : ∀ k, k < rank S n → ∃ q : Nat, (((List.range n).filter (fun i => (S.lin i).isSome)).map Int.ofNat).getD k 0 = q ∧ q < n ∧ (S.lin q).isSome = true ∧ rank S q = k := by
  induction n with
  | zero => intro k hk; simp [rank] at hk
  | succ n ih =>
    intro k hk
    rw [rank_succ] at hk
    have hl : (((List.range n).filter (fun i => (S.lin i).isSome)).map Int.ofNat).length = rank S n := by simp [rank]
    rw [List.range_succ, List.filter_append, List.map_append]
    by_cases e : k < rank S n
    · obtain ⟨q, h1, h2, h3, h4⟩ := ih k e
      refine ⟨q, ?_, by omega, h3, h4⟩
      rw [← h1]
      simp only [List.getD]
      rw [List.getElem?_append_left (by omega)]
    · by_cases hn : (S.lin n).isSome = true
      · rw [if_pos hn] at hk
        obtain rfl : k = rank S n := by omega
        refine ⟨n, ?_, by omega, hn, rfl⟩
        simp only [List.getD]
        rw [List.getElem?_append_right (by omega), hl, Nat.sub_self]
        simp [hn]
      · rw [if_neg hn] at hk; omega
theorem dirty_get (S : St) {k : Nat} (hk : k < (dirtyL S).length) : ∃ q : Nat, (dirtyL S).getD k 0 = q ∧ q < S.n ∧ (S.lin q).isSome = true ∧ rank S q = k :=
  dirty_get_of S S.n k (by rw [← dirty_len]; exact hk)

/-- What is seen behind a crash, as far as the first k dirty lines go. -/
def crashP (S : St) (keep : List Bool) (k : Nat) : List Int := flat (fun i => if rank S i < k ∧ keep.getD (rank S i) false = false then lastOf S i else lineAt S.seen i) S.n
def crashS (S : St) (keep : List Bool) : St := { n := S.n, seen := crashP S keep (dirtyL S).length, lin := fun _ => none, armed := 0, down := false }
theorem crashP_lenAt {S : St} (h : S.Ok) (keep : List Bool) (k : Nat) : ∀ i, i < S.n → (if rank S i < k ∧ keep.getD (rank S i) false = false then lastOf S i else lineAt S.seen i).length = 64 := fun i hi => by
  split
  · exact lastOf_len h hi
  · exact lineAt_len h hi
theorem crashP_len {S : St} (h : S.Ok) (keep : List Bool) (k : Nat) : (crashP S keep k).length = 64 * S.n := flat_len S.n (crashP_lenAt h keep k)
theorem crashP_start {S : St} (h : S.Ok) (keep : List Bool) : crashP S keep 0 = S.seen := by
  refine Eq.trans ?_ (flat_same S.seen S.n h.len)
  unfold crashP
  refine flat_congr S.n fun i hi => ?_
  rw [if_neg (by omega)]
theorem crashP_keep {S : St} {keep : List Bool} {k : Nat} (hk : keep.getD k false = true) : crashP S keep (k + 1) = crashP S keep k := by
  refine flat_congr S.n fun i hi => ?_
  by_cases e : rank S i = k
  · rw [e, hk]; simp
  · have : rank S i < k + 1 ↔ rank S i < k := by omega
    simp only [this]
theorem crashP_lose {S : St} (h : S.Ok) {keep : List Bool} {k q : Nat} {zs : List Int} {fl : Bool} (hq : rank S q = k) (hz : S.lin q = some (zs, fl)) (hk : keep.getD k false = false) : splice (crashP S keep k) (64 * q) zs = crashP S keep (k + 1) := by
  obtain ⟨h1, h2, _⟩ := h.lin q zs fl hz
  unfold crashP
  rw [splice_flat S.n q zs (crashP_lenAt h keep k) h2 h1]
  refine flat_congr S.n fun i hi => ?_
  by_cases e : i = q
  · subst e
    rw [if_pos rfl, hq, if_pos ⟨by omega, hk⟩]
    simp [lastOf, hz]
  · rw [if_neg e]
    by_cases hs : (S.lin i).isSome = true
    · have hne : rank S i ≠ k := fun e' => e (rank_inj S hs (by rw [hz]; rfl) (by rw [e', hq]))
      have : rank S i < k + 1 ↔ rank S i < k := by omega
      simp only [this]
    · have hn : lastOf S i = lineAt S.seen i := by
        unfold lastOf
        split
        · rename_i zs' fl' hz'; rw [hz'] at hs; simp at hs
        · rfl
      rw [hn]; simp
end Go.Proofs.YtgiippbjieecmaaGreat
/- pmem's Crash by its contract. -/
namespace Go.Proofs.YtgiippbjieecmaaGreat
set_option maxRecDepth 100000
open Go.RowKit Go.Maps

/-- A slice of n truths that can be read. -/
structure Slb (w : World) (ao : Option Addr) (n : Nat) (bs : List Bool) : Prop where
  len : bs.length = n
  here : 0 < n → ∃ b off, ao = some ⟨b, off, none⟩ ∧ b < w.heap.size ∧ ∀ i, i < n → w.cell? ⟨b, off + i, none⟩ = some (.bool (bs.getD i false))
theorem Slb.off {F : Nat → Prop} {w w' : World} {ao : Option Addr} {n : Nat} {bs : List Bool} (h : Slb w ao n bs) (ho : Off F w w') (hno : 0 < n → ∀ c, ao = some c → ¬ F c.block) : Slb w' ao n bs := by
  refine ⟨h.len, fun hn => ?_⟩
  obtain ⟨b, off, e, hlt, hc⟩ := h.here hn
  refine ⟨b, off, e, Nat.lt_of_lt_of_le hlt ho.size, fun i hi => ?_⟩
  rw [World.cell?_of_block (a := ⟨b, off + i, none⟩) (ho.block b hlt (hno hn _ e))]
  exact hc i hi

theorem step_copy_row {ops : Array Oper} {o : Oper} {a : Act} {w : World} {K : Act → World → Prop} {Q : Exit → Act → World → Prop} {E : Prop} (hgd : o.guard = none) (d s : Operand)
    (ho : o.op = .call { callee := .builtin .copy, args := #[d, s], argTypes := #[22, 22] })
    (sb i dLen dCap L sc xb sCap : Nat) (hd : a.eval d = .slice (some ⟨sb, i, none⟩) dLen dCap) (hs : a.eval s = .slice (some ⟨xb, 0, none⟩) 64 sCap)
    (zs ys : List Int) (hown : Own .u8 5 0 w (some ⟨sb, 0, none⟩) L sc zs) (hx : Own .u8 5 0 w (some ⟨xb, 0, none⟩) 64 sCap ys) (hdl : 64 ≤ dLen) (hfit : i + 64 ≤ L)
    (h : ∀ w', Own .u8 5 0 w' (some ⟨sb, 0, none⟩) L sc (splice zs i ys) → w.grownBy w' (some sb) → K (a.put o.dst (goInt 64)) w') :
    if Region.wanted o (yielded ops a.tmps) = true then Oper.wp Tryz.prog o a w K Q else E := by
  have hw : Region.wanted o (yielded ops a.tmps) = true := by simp [Region.wanted, hgd]
  rw [if_pos hw]
  have hsz : (Tryz.prog.info? 5).map (·.size) = some 1 := by
    obtain ⟨i0, hi, hz0, hz1, hz2⟩ := info_parts Tryz.info5
    rw [hi]; simp [hz1]
  have hyl : ys.length = 64 := hx.len
  have hmin : (ys.map (Value.int .u8)).length = Nat.min 64 dLen := by rw [List.length_map, hyl]; exact (Nat.min_eq_left hdl).symm
  obtain ⟨cur, hcur, hsize, _⟩ := hown.block
  have hcap := hown.cap_le
  obtain ⟨r1, r2, r3⟩ := own_copied hown (i := i) (ys := ys) (by omega) hcur
  obtain ⟨b, off, e, _, hc⟩ := hx.sl.here (by omega)
  simp only [Option.some.injEq, Addr.mk.injEq, and_true] at e
  obtain ⟨rfl, rfl⟩ := e
  have hrun := run_copy_row (P := Tryz.prog) w 22 22 o.type 5 sb i dLen dCap ⟨xb, 0, none⟩ 64 sCap cur 5 (ys.map (Value.int .u8)) Tryz.underlying22 hsz hcur hmin (fun j v hv => by
        have hj : j < ys.length := by simpa using (List.getElem?_eq_some_iff.1 hv).1
        rw [Addr.add_lit, hc j (by omega)]
        simp only [List.getElem?_map, List.getElem?_eq_getElem hj, Option.map_some, Option.some.injEq] at hv
        subst hv
        simp [List.getD, List.getElem?_eq_getElem hj]) (by simp; omega) (ints_oneCell _ _)
  unfold Oper.wp
  simp only [execOp, ho, resolve, invoke, builtin]
  have e64 : (ys.map (Value.int .u8)).length = 64 := by rw [List.length_map, hyl]
  rw [e64] at hrun r1 r2
  simp [hd, hs, hrun, Result.andThen]
  exact h _ r1 r2

theorem wrap64_small {n : Int} (h0 : 0 ≤ n) (h1 : n ≤ 9223372036854775807) : IntKind.i64.wrap n = n := by
  rw [IntKind.wrap_i64]; omega
theorem MapAt.drew {w : World} {bm N : Nat} {g : Nat → Option Nat} (h : MapAt w bm g N) : MapAt w.drew bm g N := h.kept rfl
theorem look_run {w : World} {bm N : Nat} {g : Nat → Option Nat} (h : MapAt w bm g N) {i l : Nat} (hi : g i = some l) (h9 : i ≤ 9223372036854775807) : (Instr.lookup 52 (.map (some bm)) (.int .i64 (i : Int)) false).run Tryz.prog w = .ok (.pointer (some ⟨l, 0, none⟩)) w := by
  obtain ⟨D, h⟩ := h
  obtain ⟨v, ps, hrun, hv⟩ := h.own.lookup law3 Tryz.underlying52 (z := .pointer none) (Tryz.zeroValue75 _) (zd := ptrD none) (zp := []) rfl (keyOf_int_mk Tryz.underlying3 (wf_nat h9))
  obtain ⟨o', rfl, e⟩ := ptrR_inv hv
  rw [h.item i] at e
  simp only [Prod.mk.injEq] at e
  have := ptrD_inj e.1
  rw [hi] at this
  subst this
  exact hrun
theorem crashP_bytes {S : St} (h : S.Ok) (keep : List Bool) (k : Nat) : Bytes (crashP S keep k) := by
  unfold crashP
  generalize S.n = n
  induction n with
  | zero => intro z hz; cases hz
  | succ n ih =>
    intro z hz
    simp only [flat, List.mem_append] at hz
    rcases hz with hz | hz
    · exact ih z hz
    · split at hz
      · exact lastOf_bytes h z hz
      · exact bytes_sub h.byt _ _ z hz

theorem DevAt.reseen {w : World} {F : Nat → Prop} {p : Nat} {S : St} {sb sc bm : Nat} {g : Nat → Option Nat} {zs zs' : List Int} (h : DevAt w F p { S with seen := zs } sb sc bm g) (e : zs = zs') : DevAt w F p { S with seen := zs' } sb sc bm g := by subst e; exact h

theorem run_clear_all {w : World} {bm N : Nat} {g : Nat → Option Nat} (h : MapAt w bm g N) :
    ∃ w', (∀ ty, (Builtin.clear_ #[52] ty #[.map (some bm)]).run Tryz.prog w = .ok (.tuple #[]) w') ∧ MapAt w' bm (fun _ => none) N ∧ w.grownBy w' (some bm) := by
  obtain ⟨es, c, hb⟩ := h.obj
  have hrun : ∀ ty, (Builtin.clear_ #[52] ty #[.map (some bm)]).run Tryz.prog w = .ok (.tuple #[]) (ChangeMaps.setBlock w bm (.map #[] c)) := fun ty => by
    simp [Builtin.clear_, run_underlying Tryz.underlying52, MapKept.run_getObj_map hb, MapKept.run_setObj_map _ hb, Result.andThen, ChangeMaps.setBlock]
  refine ⟨_, hrun, ⟨.map [], ⟨#[], c, ChangeMaps.heap_setBlock_same hb _, ⟨by simp, MapKept.stamped_empty c, by simp⟩, Nat.zero_le _, rfl⟩, fun _ => rfl, fun kl h => by simp [Maps.has] at h, fun _ => rfl⟩, ⟨rfl, rfl, rfl, by simp [ChangeMaps.setBlock], fun i _ hi => ChangeMaps.heap_setBlock_other hb _ (fun e => hi (by rw [e]))⟩⟩
theorem DevAt.cleared {w w' : World} {F : Nat → Prop} {p : Nat} {S : St} {sb sc bm : Nat} {g : Nat → Option Nat} (h : DevAt w F p S sb sc bm g) (hg : w.grownBy w' (some bm)) (hm : MapAt w' bm (fun _ => none) S.n) : DevAt w' F p { S with lin := fun _ => none } sb sc bm (fun _ => none) := by
  have old : ∀ k, F k → k ≠ bm → w'.heap[k]? = w.heap[k]? := fun k hk hn => hg.block k (h.bound k hk) (by simpa using hn)
  exact ⟨⟨h.ok.len, h.ok.n0, h.ok.n1, h.ok.a0, h.ok.a1, h.ok.byt, fun j zs fl hj => (by cases hj)⟩, (old p h.fp h.bm_ne.1.symm).trans h.obj, h.fp, h.fs, h.fm, own_same h.seen (old sb h.fs h.bm_ne.2.symm), hm, fun j l hj => (by cases hj), fun _ _ => rfl, fun j j' l h1 => (by cases h1), fun k hk => Nat.lt_of_lt_of_le (h.bound k hk) hg.size⟩
theorem crash_step {wr w4 : World} {F : Nat → Prop} {p : Nat} {S : St} {sb sc bm : Nat} {g : Nat → Option Nat} {bs : List Bool} {k q L QQ : Nat} {zs : List Int} {fl : Bool} (hdk : DevAt wr F p { S with seen := crashP S bs k } sb sc bm g) (hok : S.Ok) (hr : rank S q = k) (hz : S.lin q = some (zs, fl)) (hk : bs.getD k false = false)
    (hL : L = (crashP S bs k).length) (hQ : QQ = 64 * q) (hfit : QQ + 64 ≤ L) (hg : wr.drew.grownBy w4 (some sb)) (ho : Own .u8 5 0 w4 (some ⟨sb, 0, none⟩) L sc (splice (crashP S bs k) QQ zs)) : DevAt w4 F p { S with seen := crashP S bs (k + 1) } sb sc bm g := by
  have h0 : DevAt wr.drew F p { S with seen := crashP S bs k } sb sc bm g := hdk.same (Nat.le_refl _) (fun _ _ => rfl)
  obtain ⟨_, h2, h3⟩ := hok.lin q zs fl hz
  subst hL hQ
  have h1 := h0.seeing (i := 64 * q) (ys := zs) (by rw [h2]; exact hfit) h3 hg ho
  exact h1.reseen (S := S) (crashP_lose hok hr hz hk)
theorem crash_off {w wr w4 : World} {F : Nat → Prop} {sb : Nat} (h : Off F w wr) (hs : F sb) (hg : wr.drew.grownBy w4 (some sb)) : Off F w w4 :=
  (show Off F w wr.drew from ⟨h.os, h.tape, h.output, h.size, h.block⟩).trans (Off.of_grown hg (fun j hj => by cases hj; exact Or.inl hs)) (fun _ h => Or.inl h)
theorem crash_list {wr w4 : World} {F : Nat → Prop} {sb B lb m lc : Nat} {zs : List Int} (h : Own .i64 3 B wr (some ⟨lb, 0, none⟩) m lc zs) (hs : F sb) (hF : ∀ k, F k → k < B) (hg : wr.drew.grownBy w4 (some sb)) : Own .i64 3 B w4 (some ⟨lb, 0, none⟩) m lc zs := by
  have hb := h.base
  have hne : lb ≠ sb := fun e => by have := hF sb hs; omega
  exact own_same h (hg.block lb hb.2 (by simpa using hne))

set_option maxRecDepth 100000 in
theorem crash_loop {w : World} {F : Nat → Prop} {p : Nat} {S : St} {sb sc bm : Nat} {g : Nat → Option Nat} (hd : DevAt w F p S sb sc bm g) (ao : Option Addr) (n cap : Nat) (bs : List Bool) (hk : Slb w ao n bs) (hn9 : n ≤ 9223372036854775807) (hno : 0 < n → ∀ c, ao = some c → ¬ F c.block) :
    Calls Tryz.prog 14 #[.pointer (some ⟨p, 0, none⟩), .slice ao n cap] w fun e w' => e = .returned (.tuple #[]) ∧ Dev w' F p (crashS S bs) ∧ Goes F w F w' := by
  have hdi := dirty_any ⟨sb, sc, bm, g, hd⟩
  have hok := hd.ok
  have hN := hd.ok.n1
  have hbd := hd.bound
  obtain ⟨m, hm⟩ : ∃ m, m = (dirtyL S).length := ⟨_, rfl⟩
  have hmN : m ≤ 4096 := by
    rw [hm, dirtyL, List.length_map]
    exact Nat.le_trans (List.length_filter_le _ _) (by simp; exact hN)
  have HM : Hid (m = (dirtyL S).length) := hm
  rw [← hm] at hdi
  clear hm
  go_enter Tryz.func14, Tryz.ntmps14
  go_wp2_with (go_at_call 40; with_reducible refine hdi.mono ?_; rintro e w1 ⟨lo, lc, rfl, hlo, hbel⟩)
  have hoff1 : Off F w w1 := Off.of_below hbel
  go_loopw [9] (fun c wr => ∃ k : Nat, k ≤ m ∧ c = .int .i64 k ∧ DevAt wr F p { S with seen := crashP S bs k } sb sc bm g ∧ Own .i64 3 w.heap.size wr lo m lc (dirtyL S) ∧ Off F w wr) (fun c _ => m - (RowKit.intOf c).toNat)
  case atStart =>
    refine ⟨0, Nat.zero_le _, rfl, ?_, hlo, hoff1⟩
    have := hd.same hbel.size (fun k hk => hbel.block k (hd.bound k hk))
    exact DevAt.reseen (S := S) (zs := S.seen) this (crashP_start hok bs).symm
  case round =>
    obtain ⟨k, hkm, rfl, hdk, hlk, hoff⟩ := hrel
    by_cases hlt : k < m
    · obtain ⟨q, hq, hqn, hqs, hqr⟩ := dirty_get S (k := k) (by rw [← HM.out]; exact hlt)
      obtain ⟨lb, lc', hsh⟩ := own_shape hlk.row (by omega)
      simp only [Value.slice.injEq] at hsh
      obtain ⟨rfl, _, rfl⟩ := hsh
      have hcell := hlk.at k hlt hq
      have hkj : (k : Int) < m := by omega
      have hlbase := hlk.base
      have hgq : ∃ l, g q = some l := by
        cases hgq : g q with
        | none => rw [hd.void q hgq] at hqs; cases hqs
        | some l => exact ⟨l, rfl⟩
      obtain ⟨l, hgq⟩ := hgq
      obtain ⟨xb, xc, zs, fl, e1, e2, e3, e4, e5, e6⟩ := hdk.lines q l hgq
      obtain ⟨l0, l1, l2⟩ := lin_cells e5
      obtain ⟨c0, c1, c2, c3⟩ := dev_cells hdk.obj
      have hkr := hk.off hoff hno
      have H1 : Hid (S.lin q = some (zs, fl) ∧ rank S q = k) := ⟨e1, hqr⟩
      clear e1 hq hqs hqr
      by_cases hkp : bs.getD k false = true
      · have hkn : k < n := by
          have := hkr.len
          by_cases h : k < n
          · exact h
          · simp [List.getD, List.getElem?_eq_none (show bs.length ≤ k by omega)] at hkp
        obtain ⟨kb, ko, rfl, hkb, hkc⟩ := hkr.here (by omega)
        have hkc1 := hkc k hkn
        rw [hkp] at hkc1
        have hkn2 : ¬ ((n : Int) ≤ k) := by omega
        have H2 : Hid (bs.getD k false = true) := hkp
        have HL : Hid (Own .i64 3 w.heap.size wr (some ⟨lb, 0, none⟩) m lc (dirtyL S)) := hlk
        clear hkc hkr hk hkp hlk
        go_wp2
        go_roundw
        case rel => exact ⟨k + 1, by omega, by go_num, hdk.reseen (crashP_keep H2.out).symm, HL.out, hoff⟩
        case measure => simp [RowKit.intOf]; omega
      · have H2 : Hid (bs.getD k false = false) := hid (by simpa using hkp)
        have HL : Hid (Own .i64 3 w.heap.size wr (some ⟨lb, 0, none⟩) m lc (dirtyL S)) := hlk
        have hlen2 : (crashP S bs k).length = 64 * S.n := crashP_len hok bs k
        obtain ⟨L, hL⟩ : ∃ L, L = (crashP S bs k).length := ⟨_, rfl⟩
        have hown := hdk.seen
        have hcap := hdk.seen.cap_le
        rw [← hL] at c0 hown hcap hlen2
        have hqL : 64 * q + 64 ≤ L := by omega
        have hL9 : L ≤ 262144 := by omega
        have hdl : 64 ≤ L - 64 * q := by omega
        have hsd : Own .u8 5 0 wr.drew (some ⟨sb, 0, none⟩) L sc (crashP S bs k) := own_same hown rfl
        have hxd : Own .u8 5 0 wr.drew (some ⟨xb, 0, none⟩) 64 xc zs := own_same e6 rfl
        have HLL : Hid (L = (crashP S bs k).length) := hL
        obtain ⟨QQ, hQQ⟩ : ∃ QQ, QQ = 64 * q := ⟨_, rfl⟩
        have hwq : IntKind.i64.wrap ((q : Int) * 64) = (QQ : Int) := by rw [wrap64_small (by omega) (by omega)]; omega
        have hscne : ¬ sc = QQ := by omega
        have hb0 : (0 : Int) ≤ QQ := by omega
        have hb1 : (QQ : Int) ≤ L := by omega
        rw [← hQQ] at hdl hqL
        have HQQ : Hid (QQ = 64 * q) := hQQ
        clear hL hlen2 hlk hown hQQ
        by_cases hkn : k < n
        · obtain ⟨kb, ko, rfl, hkb, hkc⟩ := hkr.here (by omega)
          have hkc1 := hkc k hkn
          rw [H2.out] at hkc1
          have hkn2 : ¬ ((n : Int) ≤ k) := by omega
          clear hkc hkr hk hkp
          go_wp2
          have hlook : (Instr.lookup 52 (.map (some bm)) (.int .i64 (q : Int)) false).run Tryz.prog wr.drew = .ok (.pointer (some ⟨l, 0, none⟩)) wr.drew := look_run hdk.map.drew hgq (by omega)
          go_region_law (refine step_copy_row rfl (.tmp 31) (.tmp 40) rfl sb QQ (L - QQ) (sc - QQ) L sc xb xc rfl rfl (crashP S bs k) zs hsd hxd hdl hqL ?_; intro w4 ho4 hg4)
          all_goals
            go_wp2
            go_roundw
            case rel => exact ⟨k + 1, by omega, by go_num, crash_step hdk hok H1.out.2 H1.out.1 H2.out HLL.out HQQ.out (by omega) hg4 ho4, crash_list HL.out hdk.fs hbd hg4, crash_off hoff hdk.fs hg4⟩
            case measure => simp [RowKit.intOf]; omega
        · have hkn2 : (n : Int) ≤ k := by omega
          clear hkr hk hkp
          go_wp2
          have hlook : (Instr.lookup 52 (.map (some bm)) (.int .i64 (q : Int)) false).run Tryz.prog wr.drew = .ok (.pointer (some ⟨l, 0, none⟩)) wr.drew := look_run hdk.map.drew hgq (by omega)
          go_region_law (refine step_copy_row rfl (.tmp 31) (.tmp 40) rfl sb QQ (L - QQ) (sc - QQ) L sc xb xc rfl rfl (crashP S bs k) zs hsd hxd hdl hqL ?_; intro w4 ho4 hg4)
          all_goals
            go_wp2
            go_roundw
            case rel => exact ⟨k + 1, by omega, by go_num, crash_step hdk hok H1.out.2 H1.out.1 H2.out HLL.out HQQ.out (by omega) hg4 ho4, crash_list HL.out hdk.fs hbd hg4, crash_off hoff hdk.fs hg4⟩
            case measure => simp [RowKit.intOf]; omega
    · obtain rfl : k = m := by omega
      have hkj : ¬ ((k : Int) < (k : Int)) := by omega
      obtain ⟨c0, c1, c2, c3⟩ := dev_cells hdk.obj
      obtain ⟨w5, hclr, hm5, hg5⟩ := run_clear_all hdk.map
      have hd5 := hdk.cleared hg5 hm5
      obtain ⟨d0, d1, d2, d3⟩ := dev_cells hd5.obj
      have f2 := dev_frozen hd5.obj 2
      have f3 := dev_frozen hd5.obj 3
      obtain ⟨D6, G6, S6⟩ := hd5.stored 0 (by omega) (by omega)
      obtain ⟨D7, G7, S7⟩ := D6.downed false
      clear hlk hk
      go_wp2
      go_end0
      refine ⟨rfl, ⟨sb, sc, bm, fun _ => none, ?_⟩, ?_, fun _ h => Or.inl h⟩
      · have e1 : crashS S bs = { n := S.n, seen := crashP S bs k, lin := fun _ => none, armed := 0, down := false } := by unfold crashS; rw [← HM.out]
        rw [e1]; exact D7
      · exact hoff.trans (Off.of_grown (F := F) hg5 (fun j hj => by cases hj; exact Or.inl hdk.fm)) (fun _ h => Or.inl h) |>.trans (Off.of_grown (F := F) G6 (fun j hj => by cases hj; exact Or.inl hdk.fp)) (fun _ h => Or.inl h) |>.trans (Off.of_grown (F := F) G7 (fun j hj => by cases hj; exact Or.inl hdk.fp)) (fun _ h => Or.inl h)
end Go.Proofs.YtgiippbjieecmaaGreat
/- pmem's Image by its contract. -/
namespace Go.Proofs.YtgiippbjieecmaaGreat
set_option maxRecDepth 100000
open Go.RowKit Go.Maps

theorem own_up {k : IntKind} {e : TypeId} {B : Nat} {w : World} {g n cap : Nat} {zs : List Int} (h : Own k e 0 w (some ⟨g, 0, none⟩) n cap zs) (hB : B ≤ g) : Own k e B w (some ⟨g, 0, none⟩) n cap zs := by
  refine ⟨h.len, h.row.1, ?_⟩
  rcases h.row.2 with hn | ⟨g', cap', cur, hv, hg, r⟩
  · exact Or.inl hn
  · have e1 : g = g' := by simp only [Value.slice.injEq, Option.some.injEq, Addr.mk.injEq, and_true] at hv; exact hv.1
    subst e1
    exact Or.inr ⟨g, cap', cur, hv, hB, r⟩
theorem Below.drewN' {B : Nat} {a w : World} (h : RowKit.Below B a w) : RowKit.Below B a w.drew := h.trans ⟨rfl, rfl, rfl, Nat.le_refl _, fun _ _ => rfl⟩

theorem image_step {w w2 w4 : World} {F : Nat → Prop} {p : Nat} {S : St} {sb sc bm ib ic r q L QQ : Nat} {g : Nat → Option Nat} {left : Nat → Bool} {zs : List Int} {fl : Bool} (hd2 : DevAt w2 F p S sb sc bm g) (hok : S.Ok) (hz : S.lin q = some (zs, fl)) (hQ : QQ = 64 * q)
    (hg4 : w2.drew.grownBy w4 (some ib)) (ho4 : Own .u8 5 0 w4 (some ⟨ib, 0, none⟩) L ic (splice (imageP S left) QQ zs)) (hrg : Rng w2 bm r g S.n (strike left q)) (hib : ∀ k, F k → k ≠ ib) (hbase : w.heap.size ≤ ib) (hr : r ≠ ib) (hb : RowKit.Below w.heap.size w w2) :
    Rng w4 bm r g S.n (strike left q) ∧ w4.rangeLeft bm r = w2.rangeLeft bm r ∧ Own .u8 5 w.heap.size w4 (some ⟨ib, 0, none⟩) L ic (imageP S (strike left q)) ∧ DevAt w4 F p S sb sc bm g ∧ RowKit.Below w.heap.size w w4 := by
  have hsz : w2.heap.size ≤ w4.heap.size := hg4.size
  have old : ∀ k, k < w2.heap.size → k ≠ ib → w4.heap[k]? = w2.heap[k]? := fun k hk hn => hg4.block k hk (by simpa using hn)
  have h1 := hrg.kept (w' := w4) (old bm (hd2.bound bm hd2.fm) (hib bm hd2.fm)) (old r hrg.lt hr)
  refine ⟨h1.1, h1.2, ?_, hd2.same hsz (fun k hk => old k (hd2.bound k hk) (hib k hk)), ?_⟩
  · subst hQ
    rw [imageP_step hok hz] at ho4
    exact own_up ho4 hbase
  · exact (Below.drewN' hb).grown hg4 hb.size (by intro k hk; cases hk; exact hbase)

set_option maxRecDepth 100000 in
theorem image_any {w : World} {F : Nat → Prop} {p : Nat} {S : St} (hd : Dev w F p S) :
    Calls Tryz.prog 16 #[.pointer (some ⟨p, 0, none⟩)] w fun e w' => ∃ g c, e = .returned (.slice (some ⟨g, 0, none⟩) S.seen.length c) ∧ Own .u8 5 w.heap.size w' (some ⟨g, 0, none⟩) S.seen.length c (lasts S) ∧ RowKit.Below w.heap.size w w' := by
  have hok := hd.ok
  obtain ⟨sb, sc, bm, g, hd⟩ := hd
  obtain ⟨c0, c1, c2, c3⟩ := dev_cells hd.obj
  have hl := hd.ok.len
  have hn0 := hd.ok.n0
  have hN := hd.ok.n1
  have hpb := hd.bound p hd.fp
  have hbd := hd.bound
  obtain ⟨L, hL⟩ : ∃ L, L = S.seen.length := ⟨_, rfl⟩
  have hcl := clone_any _ _ _ _ w hd.seen.sl (by omega) (by omega)
  rw [← hL] at c0 hcl hl ⊢
  have HL : Hid (L = 64 * S.n) := hl
  have hL9 : L ≤ 262144 := by omega
  clear hl hn0 hL
  go_enter Tryz.func16, Tryz.ntmps16
  go_wp2_with (first
    | (go_at_call 25; with_reducible refine hcl.mono ?_; rintro e w1 ⟨ib, ic, rfl, ho1, hb1⟩;
       have c1' := (cell_kept (i := 1) (hb1.block p hpb)).trans c1;
       have hd1 := hd.same hb1.size (fun k hk => hb1.block k (hbd k hk)); have hmap := hd1.map)
    | (at_range; refine wpList_range_map _ rfl _ rfl bm g S.n rfl hmap ?_; intro w0 hrg0 hg0 hs0))
  go_frame
  have hib := ho1.base
  have hib1 : ∀ k, F k → k ≠ ib := fun k hk e => by have := hbd k hk; omega
  have hri : w1.heap.size ≠ ib := by omega
  have hr1 : ∀ k, F k → k ≠ w1.heap.size := fun k hk => by have := hd1.bound k hk; omega
  have HS : Hid (w.heap.size ≤ w1.heap.size) := hb1.size
  have hcap := ho1.cap_le
  go_loopw [4] (fun _ wr => ∃ (left : Nat → Bool), Rng wr bm w1.heap.size g S.n left ∧ Own .u8 5 w.heap.size wr (some ⟨ib, 0, none⟩) L ic (imageP S left) ∧ DevAt wr F p S sb sc bm g ∧ RowKit.Below w.heap.size w wr) (fun _ wr => wr.rangeLeft bm w1.heap.size)
  case atStart =>
    refine ⟨_, hrg0, ?_, hd1.same hg0.size (fun k hk => hg0.block k (hd1.bound k hk) (by simp)), hb1.trans ⟨hg0.os, hg0.tape, hg0.output, hg0.size, fun k hk => hg0.block k (by have := HS.out; omega) (by simp)⟩⟩
    rw [imageP_start hok]
    · exact own_same ho1 (hg0.block ib hib.2 (by simp))
    · intro j x hj
      cases hgj : g j with
      | none => rw [hd.void j hgj] at hj; cases hj
      | some l => rfl
  case round =>
    obtain ⟨left, hrg, hown, hdl, hbl⟩ := hrel
    go_wp2_with (at_next; refine wpList_next_map _ rfl _ rfl bm w1.heap.size g S.n left hN rfl hrg ?_ ?_)
    · intro hl0
      go_wp2
      go_ret
      exact ⟨ib, ic, rfl, by rw [← imageP_end hl0]; exact hown, hbl⟩
    · intro q l w2 hgq hqN hlq hrg2 hlt2 hg2 hs2 hen
      have hd2 : DevAt w2 F p S sb sc bm g := hdl.same hg2.size (fun k hk => hg2.block k (hdl.bound k hk) (by simpa using hr1 k hk))
      have hbl2 : RowKit.Below w.heap.size w w2 := hbl.trans ⟨hg2.os, hg2.tape, hg2.output, hg2.size, fun k hk => hg2.block k (by have := hbl.size; omega) (by have := HS.out; simp; omega)⟩
      have hib2 : ib < wr.heap.size := hown.base.2
      have hown2 : Own .u8 5 w.heap.size w2 (some ⟨ib, 0, none⟩) L ic (imageP S left) := own_same hown (hg2.block ib hib2 (by simpa using hri.symm))
      obtain ⟨xb, xc, zs, fl, e1, e2, e3, e4, e5, e6⟩ := hd2.lines q l hgq
      obtain ⟨l0, l1, l2⟩ := lin_cells e5
      obtain ⟨QQ, hQQ⟩ : ∃ QQ, QQ = 64 * q := ⟨_, rfl⟩
      have hqL : QQ + 64 ≤ L := by have := HL.out; omega
      have hwq : IntKind.i64.wrap ((q : Int) * 64) = (QQ : Int) := by rw [wrap64_small (by omega) (by omega)]; omega
      have hicne : ¬ ic = QQ := by omega
      have hb0 : (0 : Int) ≤ QQ := by omega
      have hb1 : (QQ : Int) ≤ L := by omega
      have hdl2 : 64 ≤ L - QQ := by omega
      have hsd : Own .u8 5 0 w2.drew (some ⟨ib, 0, none⟩) L ic (imageP S left) := own_same (hown2.mono (Nat.zero_le _)) rfl
      have hxd : Own .u8 5 0 w2.drew (some ⟨xb, 0, none⟩) 64 xc zs := own_same e6 rfl
      have H1 : Hid (S.lin q = some (zs, fl) ∧ QQ = 64 * q) := ⟨e1, hQQ⟩
      clear e1 hQQ hgq hdl hrg hown hown2 hs2
      go_wp2
      go_region_law (refine step_copy_row rfl (.tmp 24) (.tmp 28) rfl ib QQ (L - QQ) (ic - QQ) L ic xb xc rfl rfl (imageP S left) zs hsd hxd hdl2 hqL ?_; intro w4 ho4 hg4)
      all_goals
        have hst := image_step (w := w) hd2 hok H1.out.1 H1.out.2 hg4 ho4 hrg2 hib1 hib.1 hri hbl2
        go_wp2
        go_roundw
        case rel => exact ⟨strike left q, hst.1, hst.2.2.1, hst.2.2.2.1, hst.2.2.2.2⟩
        case measure => rw [hst.2.1]; exact hlt2
end Go.Proofs.YtgiippbjieecmaaGreat
