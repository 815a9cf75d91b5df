/- pages.Mates by its contract. -/
import Derived.Test.YtlghhhhgfnnjgaaDoorHpG
import Derived.Test.YtlghhhhgfnnjgaaDoorAppI
import Derived.Test.YtlghhhhgfnnjgaaDoorFewI
namespace Go.Proofs.YtlghhhhgfnnjgaaDoor
set_option maxRecDepth 100000
open Go.RowKit Go.Shelf
set_option linter.unusedVariables false
set_option linter.unusedSimpArgs false
set_option maxRecDepth 100000

/-- Operations that are no defer statements are in a round what they are everywhere. -/
theorem list_round {l n : Nat} {P : Program} {ops : Array Oper} {Q : Exit → Act → World → Prop} (hQ : ¬ LetsOut Q) :
    ∀ (rest : List Oper), (∀ o ∈ rest, ∀ c, o.op ≠ .defer c) → ∀ (a : Act) (w : World), wpList P ops Q rest a w → wpListIn (Fence.wide.inRound l) n P ops Q rest a w
  | [], _, _, _, h => h
  | o :: rest, hd, a, w, h => by
    unfold wpList at h
    unfold wpListIn
    by_cases hw : Region.wanted o (yielded ops a.tmps) = true
    · rw [if_pos hw] at h ⊢
      rcases h with h | h
      · exact op_round (hd o (by simp)) (Oper.wp_mono (fun a w => list_round hQ rest (fun o ho => hd o (by simp [ho])) a w) h)
      · exact absurd h.2 hQ
    · rw [if_neg hw] at h ⊢
      exact ⟨fun _ _ => trivial, list_round hQ rest (fun o ho => hd o (by simp [ho])) _ _ h⟩
theorem mates_wrong (P : Int) (ao : Option Addr) (n cap : Nat) (l : List Spn) (pg : Int) (w : World) (T : Cws w) (h : Ps w ao n cap l) (hn : n ≤ 8796093022208) (hr : ¬ RightO P l) :
    Calls Tryd.prog 14 #[.int .i64 P, .slice ao n cap, .int .i64 pg] w fun e w' => e = .returned (.slice none 0 0) ∧ Below w.heap.size w w' := by
  have hb0 : Below w.heap.size w (w.alloc (.cells #[.int .i64 pg] 3)) := (Below.refl _ _).alloc (Nat.le_refl _) _
  have cL := lay_ps P ao n cap l _ (T.kept hb0) (h.below hb0) hn
  have HR : Hid (∀ M s b, LaidH P l M s b → b = false) := hid (fun M s b h => h.f hr)
  have hz := hp_zero
  have hz1 := hpC_size 0 hp0
  have hz2 := hpC_some 0 hp0
  clear h T hr
  go_enter Tryd.func14, Tryd.ntmps14
  go_wp2_with (go_at_call 27; with_reducible refine cL.mono ?_; rintro e w1 ⟨M, s, b, rfl, hL, hb1⟩; obtain rfl := HR.out M s b hL; have hst := hp_laid w1 M s; have hsz := hpC_size M s; have hbw := next hb0 hb1; have hbA := hbw.alloc hbw.size (.cells (hpC M s) 53); clear hL)
  go_ret
  exact ⟨rfl, hbA⟩
/-- Numbers and parts of some. -/
def qfL (l : List Spn) (pre : List (Fin (prQ l).length)) : List (Nat × Blk) := pre.map (fun x => qa l x.1)
theorem qfL_snoc (l : List Spn) (pre : List (Fin (prQ l).length)) (x : Fin (prQ l).length) : qfL l (pre ++ [x]) = qfL l pre ++ [qa l x.1] := by simp [qfL]
theorem qfL_all (l : List Spn) : qfL l (List.finRange (prQ l).length) = prQ l := by
  apply List.ext_getElem?
  intro i
  by_cases h : i < (prQ l).length
  · simp [qfL, qa, List.getD, h]
  · simp [qfL, h]
/-- The variables of Mates. -/
structure MtI (w : World) (b9 : Nat) (pg : Int) (zs : List Int) (W : World) : Prop where
  var : ∃ bo m c, W.heap[b9]? = some (.cells #[.slice bo m c] 24 (0, 0)) ∧ Own .i64 3 (b9 + 1) W bo m c zs
  pb : W.heap[w.heap.size]? = some (.cells #[.int .i64 pg] 3 (0, 0))
  low : Below w.heap.size w W
  lt : w.heap.size < b9
theorem MtI.b9 {w : World} {b9 : Nat} {pg : Int} {zs : List Int} {W : World} (h : MtI w b9 pg zs W) : b9 < W.heap.size := by
  obtain ⟨bo, m, c, hv, _⟩ := h.var
  exact (Array.getElem?_eq_some_iff.1 hv).1
theorem own_cells {B : Nat} {W : World} {a : Addr} {m c : Nat} {zs : List Int} (h : Own .i64 3 B W (some a) m c zs) : B ≤ a.block ∧ a.block < W.heap.size ∧ ∃ cur, W.heap[a.block]? = some (.cells cur 3 (0, 0)) := by
  rcases h.row.2 with ⟨hv, _⟩ | ⟨g, cap', cur, hv, hg, hh, _⟩
  · cases hv
  · simp only [Value.slice.injEq, Option.some.injEq] at hv
    obtain ⟨rfl, _, _⟩ := hv
    exact ⟨hg, (Array.getElem?_eq_some_iff.1 hh).1, cur, hh⟩
theorem MtI.to {w : World} {b9 : Nat} {pg : Int} {zs : List Int} {W W' : World} (h : MtI w b9 pg zs W) {F : Nat → Prop} (ho : Off F W W') (hF : ∀ j, F j → b9 < j) (hc : ∀ j cur t z, F j → W.heap[j]? = some (.cells cur t z) → False) : MtI w b9 pg zs W' := by
  obtain ⟨bo, m, c, hv, hw⟩ := h.var
  have hlt := h.lt
  have hl9 := h.b9
  refine ⟨⟨bo, m, c, (ho.block _ hl9 (fun e => by have := hF _ e; omega)).trans hv, hw.off ho (fun a e hf => ?_)⟩, (ho.block _ (by omega) (fun e => by have := hF _ e; omega)).trans h.pb, h.low.trans (ho.below (fun j hj => by have := hF j hj; omega) (by omega)), hlt⟩
  subst e
  obtain ⟨_, _, cur, hcur⟩ := own_cells hw
  exact hc _ _ _ _ hf hcur
theorem MtI.kept {w : World} {b9 : Nat} {pg : Int} {zs : List Int} {W W' : World} (h : MtI w b9 pg zs W) (hb : Below W.heap.size W W') : MtI w b9 pg zs W' := h.to (F := fun _ => False) (Off.of_below hb) (fun _ h => h.elim) (fun _ _ _ _ h _ => h.elim)
theorem off_more {F G : Nat → Prop} {w w' : World} (h : Off F w w') (hs : ∀ j, F j → G j) : Off G w w' := ⟨h.os, h.tape, h.output, h.size, fun k hk hn => h.block k hk (fun c => hn (hs k c))⟩
/-- A number appended, and the variable stored. -/
theorem MtI.more {w : World} {b9 : Nat} {pg : Int} {zs ys : List Int} {W w2 : World} {bo bo2 : Option Addr} {m c m2 c2 : Nat} {X : Obj} (h : MtI w b9 pg zs W) (hv : W.heap[b9]? = some (.cells #[.slice bo m c] 24 (0, 0))) (hw : Own .i64 3 (b9 + 1) W bo m c zs)
    (hg : (W.alloc X).grownBy w2 (Value.slice bo m c).ownBlock) (ho : Own .i64 3 (b9 + 1) w2 bo2 m2 c2 ys) (hne : ¬ (3 : Nat) = 39 ∧ ¬ (3 : Nat) = 68 ∧ ¬ (24 : Nat) = 39 ∧ ¬ (24 : Nat) = 68) (B : Nat) :
    (w2.cell? ⟨b9, 0, none⟩ = some (.slice bo m c) ∧ w2.frozen? ⟨b9, 0, none⟩ = false) ∧ KeepsFrom B W (w2.setCell ⟨b9, 0, none⟩ (.slice bo2 m2 c2)) ∧ KpP w.heap.size W (w2.setCell ⟨b9, 0, none⟩ (.slice bo2 m2 c2)) ∧ W.heap.size ≤ (w2.setCell ⟨b9, 0, none⟩ (.slice bo2 m2 c2)).heap.size ∧ MtI w b9 pg ys (w2.setCell ⟨b9, 0, none⟩ (.slice bo2 m2 c2)) := by
  have hl9 := h.b9
  have hlt := h.lt
  have o1 : Off (fun j => ∃ a, bo = some a ∧ a.block = j) W w2 := (Off.of_below (F := fun j => ∃ a, bo = some a ∧ a.block = j) ((Below.refl _ W).alloc (Nat.le_refl _) X)).trans (F' := fun j => ∃ a, bo = some a ∧ a.block = j) (Off.of_grown hg (fun j hj => Or.inl (by
    cases bo with
    | none => cases hj
    | some a => simp only [Value.ownBlock, Option.some.injEq] at hj; exact ⟨a, rfl, hj⟩))) (fun j hj => Or.inl hj)
  have hF : ∀ j, (∃ a, bo = some a ∧ a.block = j) → b9 + 1 ≤ j ∧ ∃ cur, W.heap[j]? = some (.cells cur 3 (0, 0)) := by
    rintro j ⟨a, rfl, rfl⟩
    obtain ⟨h1, _, h3⟩ := own_cells hw
    exact ⟨h1, h3⟩
  have hv2 : w2.heap[b9]? = some (.cells #[.slice bo m c] 24 (0, 0)) := (o1.block b9 hl9 (fun e => by have := (hF _ e).1; omega)).trans hv
  have o2 : Off (fun j => j = b9 ∨ ∃ a, bo = some a ∧ a.block = j) W (w2.setCell ⟨b9, 0, none⟩ (.slice bo2 m2 c2)) := (off_more (G := fun j => j = b9 ∨ ∃ a, bo = some a ∧ a.block = j) o1 (fun j hj => Or.inr hj)).trans (F' := fun j => j = b9) (Off.setCell (F := fun j => j = b9) (Off.refl _ w2) ⟨b9, 0, none⟩ (.slice bo2 m2 c2) rfl) (fun j hj => Or.inl (Or.inl hj))
  have key : ∀ (j : Nat) (o : Obj), W.heap[j]? = some o → (∀ (cur : Array Value) (t : TypeId) (z : Nat × Nat), o = .cells cur t z → ¬ t = 3 ∧ ¬ t = 24) → (w2.setCell ⟨b9, 0, none⟩ (.slice bo2 m2 c2)).heap[j]? = some o := fun j o hj ht => by
    refine (o2.block j (Array.getElem?_eq_some_iff.1 hj).1 ?_).trans hj
    rintro (e | e)
    · rw [e, hv] at hj
      exact (ht _ _ _ (Option.some.inj hj).symm).2 rfl
    · obtain ⟨_, cur, hcur⟩ := hF j e
      rw [hcur] at hj
      exact (ht _ _ _ (Option.some.inj hj).symm).1 rfl
  refine ⟨⟨by rw [cell_of_row w2 b9 0 _ 24 (0, 0) hv2]; rfl, frozen_of_row w2 b9 0 _ 24 hv2⟩, ⟨o2.size, fun k o _ hk hc => key k o hk (fun cur t z e => by rw [e] at hc; cases hc)⟩, ⟨o2.below (fun j hj => ?_) (by omega), fun j c' t z hty hj => key j _ hj (fun cur t' z' e => ?_)⟩, o2.size, ⟨⟨bo2, m2, c2, ?_, ho.off (F := fun j => j = b9) (Off.setCell (F := fun j => j = b9) (Off.refl _ w2) ⟨b9, 0, none⟩ (.slice bo2 m2 c2) rfl) (fun a e he => ?_)⟩, ?_, h.low.trans (o2.below (fun j hj => ?_) (by omega)), hlt⟩⟩
  · rcases hj with hj | hj
    · omega
    · have := (hF j hj).1; omega
  · cases e
    rcases hty with rfl | rfl
    · exact ⟨fun e => hne.1 e.symm, fun e => hne.2.2.1 e.symm⟩
    · exact ⟨fun e => hne.2.1 e.symm, fun e => hne.2.2.2 e.symm⟩
  · rw [heap_setCell_same w2 b9 0 _ 24 _ hv2]; rfl
  · subst e
    have := (own_cells ho).1
    omega
  · refine (o2.block _ (by omega) ?_).trans h.pb
    rintro (e | e)
    · omega
    · have := (hF _ e).1; omega
  · rcases hj with hj | hj
    · omega
    · have := (hF j hj).1; omega
/-- Right objects are few. -/
theorem RightO.few {N : Nat} {l : List Spn} (h : RightO N l) : l.length ≤ 2048 := by
  have hN := h.rng
  have h1 := few_ints 2048 (l.map (·.pos)) (List.pairwise_map.2 (h.fit.imp fun hab => hab.1)) (fun x hx => by
    obtain ⟨o, ho, rfl⟩ := List.mem_map.1 hx
    have hin := h.lie o ho
    have hl := hin.len
    have hw := hin.within
    have hk := hin.pgk
    unfold pgA at hw
    omega)
  simpa using h1
theorem prK_few (l : List Spn) (k : Nat) : (prK l k).length ≤ 8 * k := by
  induction k with
  | zero => simp [prK]
  | succ k ih =>
    rw [prK_succ, List.length_append, List.length_map]
    have := prO_len (pa l k)
    omega
attribute [local go_sem] Oper.semAt_some
set_option maxHeartbeats 4000000 in
theorem mates_right (N : Nat) (hN : N ≤ 64) (ao : Option Addr) (n cap : Nat) (l : List Spn) (pg : Int) (w : World) (T : Cws w) (h : Ps w ao n cap l) (hn : n ≤ 8796093022208) (hr : RightO N l) :
    Calls Tryd.prog 14 #[.int .i64 (N : Int), .slice ao n cap, .int .i64 pg] w fun e w' => ∃ bo m c, e = .returned (.slice bo m c) ∧ Own .i64 3 w.heap.size w' bo m c (mtK l pg n) ∧ Below w.heap.size w w' := by
  have hb0 : Below w.heap.size w (w.alloc (.cells #[.int .i64 pg] 3)) := (Below.refl _ _).alloc (Nat.le_refl _) _
  have cL := lay_ps N ao n cap l _ (T.kept hb0) (h.below hb0) hn
  have HR : Hid (∀ M s b, LaidH (N : Int) l M s b → b = true) := hid (fun M s b h => (h.pos hr).1)
  have HMT : Hid (mtQ pg (prQ l) = mtK l pg n) := hid (by
    have := mtQ_all hr pg (Nat.le_refl l.length)
    rw [h.len] at this
    rw [← this]
    unfold prQ
    rw [h.len])
  have hz := hp_zero
  have hz1 := hpC_size 0 hp0
  have hz2 := hpC_some 0 hp0
  have hfew : (prQ l).length ≤ 16384 := by have h1 := hr.few; have h2 := prK_few l l.length; unfold prQ; omega
  clear hr
  refine callsIn_wide.1 (callsIn_of_wp_marks (n := 8) Tryd.func14 rfl trivial ?_ rfl)
  simp only [Tryd.ntmps14, List.size_toArray, List.length_cons, List.length_nil, Nat.reduceAdd, Nat.reduceSub, Array.replicate_succ, Array.replicate_zero, List.push_toArray, List.append_toArray, List.nil_append, List.cons_append]
  refine wpIn_wide.2 ?_
  go_wp2_with (first
    | (go_at_call 27; with_reducible refine cL.mono ?_; rintro e w1 ⟨M, s, b, rfl, hL, hb1⟩; obtain rfl := HR.out M s b hL; have hst := hp_laid w1 M s; have hsz := hpC_size M s; have hbw := next hb0 hb1; have hpb := (hb1.block w.heap.size (by simp)).trans (heap_alloc_new w _); have hbA := hbw.alloc hbw.size (.cells (hpC M s) 53); clear hL)
    | (go_at_call 37; refine (parts_any ao n cap _).mono ?_; rintro e w' ⟨rfl, rfl⟩))
  have hw1 : w.heap.size + 1 ≤ w1.heap.size := by have := hb1.size; simpa using this
  have hbB := hbA.alloc (o := .cells #[.slice none 0 0] 24) (by simp; omega)
  have hbC := hbB.alloc (o := .cells #[.slice ao n cap] 22) (by simp; omega)
  have hbx : (((w1.alloc (.cells (hpC M s) 53)).alloc (.cells #[.slice none 0 0] 24)).alloc (.cells #[.slice ao n cap] 22)).cell? ⟨w1.heap.size + 1 + 1, 0, none⟩ = some (.slice ao n cap) := by
    have := heap_alloc_new ((w1.alloc (.cells (hpC M s) 53)).alloc (.cells #[.slice none 0 0] 24)) (.cells #[.slice ao n cap] 22)
    rw [World.size_alloc, World.size_alloc] at this
    rw [cell_of_row _ (w1.heap.size + 1 + 1) 0 _ 22 (0, 0) this]; rfl
  have HI : Hid (MtI w (w1.heap.size + 1) pg [] (((w1.alloc (.cells (hpC M s) 53)).alloc (.cells #[.slice none 0 0] 24)).alloc (.cells #[.slice ao n cap] 22))) := hid (by
    refine ⟨⟨none, 0, 0, ?_, own_nil _ _ _ _⟩, ?_, hbC, by omega⟩
    · rw [heap_alloc_old _ _ (by simp)]
      have := heap_alloc_new (w1.alloc (.cells (hpC M s) 53)) (.cells #[.slice none 0 0] 24)
      rwa [World.size_alloc] at this
    · rw [heap_alloc_old _ _ (by simp; omega), heap_alloc_old _ _ (by simp; omega), heap_alloc_old _ _ (by omega)]
      exact hpb)
  have hW0 : (((w1.alloc (.cells (hpC M s) 53)).alloc (.cells #[.slice none 0 0] 24)).alloc (.cells #[.slice ao n cap] 22)).heap.size = w1.heap.size + 3 := by simp
  have HRP := hid h.rg
  clear cL hst hsz hbA hbB hpb hb1 hbw hb0 hz hz1 hz2
  generalize (((w1.alloc (.cells (hpC M s) 53)).alloc (.cells #[.slice none 0 0] 24)).alloc (.cells #[.slice ao n cap] 22)) = W0 at *
  refine (wpIn_wide (n := 8)).1 ?_
  refine wpIn_rangeFunc_ownH (F := Fence.wide) (n := 8) rfl (by omega) (gf := 45) (lb := #[.pointer (some ⟨w1.heap.size + 1 + 1, 0, none⟩)]) rfl trivial (enters_of Tryd.func45 (by kernel_rfl) rfl)
    (parts_stops 7 (by omega) (w1.heap.size + 1 + 1) ao n cap l w _ T h hn hbC hbx) (fun h1 h2 => KpP.trans h1 h2) (KpP.put hbC.size) (Below.refl _ _) (fun _ => rfl)
    (fun pre W => w1.heap.size + 3 ≤ W.heap.size ∧ MtI w (w1.heap.size + 1) pg (mtQ pg (qfL l pre)) W)
    (fun _ _ _ => False)
    (fun s A B' row hs hgr hr => by
      obtain ⟨h1, h2⟩ := hs
      refine ⟨Nat.le_trans h1 hgr.size, h2.to (F := fun j => row = some j) (Off.of_grown hgr (fun j hj => Or.inl hj)) (fun j hj => by have := (hr j hj).1; omega) (fun j cur t z hj hcur => ?_)⟩
      obtain ⟨_, o, ho, hc⟩ := hr j hj
      rw [hcur] at ho
      cases ho
      cases hc)
    (fun _ _ _ _ _ hs _ _ => hs)
    ⟨by omega, HI.out⟩
    (fun x a' W => ∃ Bx, w1.heap.size + 3 ≤ Bx ∧ W.heap[Bx]? = some (prtO (qa l x.1).2) ∧ a' = { tmps := #[.int .i64 (N : Int), .slice ao n cap, .int .i64 pg, undef, undef, .pointer (some ⟨w.heap.size, 0, none⟩), .slice none 0 0, .pointer (some ⟨w1.heap.size, 0, none⟩), .bool true, .pointer (some ⟨w1.heap.size + 1, 0, none⟩), .int .i64 ((qa l x.1).1 : Int), .pointer (some ⟨Bx, 0, none⟩), .tuple #[.agg (hpC M s), .bool true], .int .i64 (N : Int), .slice ao n cap, .tuple #[.agg (hpC M s), .bool true], .agg (hpC M s), .bool true, .bool true, .bool false, .slice ao n cap, .func (.func 45) #[] #[.pointer (some ⟨w1.heap.size + 1 + 1, 0, none⟩)], .int .i64 ((qa l x.1).1 : Int), .agg #[.int .i64 (qa l x.1).2.pos, .int .i64 (qa l x.1).2.sz, .int .i64 (qa l x.1).2.ix], undef, undef, undef, undef, undef, undef, undef, undef, undef], defers := [] })
    (fun x a' _ A B' row hs hgr hr => by
      obtain ⟨Bx, h1, h2, h3⟩ := hs
      refine ⟨Bx, h1, (hgr.block Bx (Array.getElem?_eq_some_iff.1 h2).1 (fun e => ?_)).trans h2, h3⟩
      obtain ⟨_, o, ho, hc⟩ := hr Bx e.symm
      rw [h2] at ho
      cases ho
      cases hc) ?assign ?body ?done ?stop
  case assign =>
    rintro L pre x W K ⟨hi0, hi2⟩ hK
    dsimp only [encP]
    gi_wp2
    have hbl : Below W.heap.size W (W.alloc (prtO (qa l x.1).2)) := (Below.refl _ _).alloc (Nat.le_refl _) _
    exact hK _ _ ((KeepsOthers.alloc _ _).from _) (KpP.below hbl (by omega)) ⟨by simp; omega, hi2.kept hbl⟩ ⟨W.heap.size, by omega, heap_alloc_new W _, rfl⟩
  case body =>
    rintro L pre x a' W hl' ⟨r, hr⟩ ⟨hi0, hi2⟩ ⟨Bx, hBx, bX, rfl⟩ hlt
    clear hr r
    obtain ⟨o0, _, _, _⟩ := qa_ok HRP.out x
    have c0 : W.cell? ⟨Bx, 0, none⟩ = some (.int .i64 (qa l x.1).2.pos) := by rw [cell_of_row W Bx 0 _ 68 (0, 0) bX]; rfl
    have c1 : W.cell? ⟨w.heap.size, 0, none⟩ = some (.int .i64 pg) := by rw [cell_of_row W w.heap.size 0 _ 3 (0, 0) hi2.pb]; rfl
    obtain ⟨bo, m, c, hv, hw⟩ := hi2.var
    have c2 : W.cell? ⟨w1.heap.size + 1, 0, none⟩ = some (.slice bo m c) := by rw [cell_of_row W _ 0 _ 24 (0, 0) hv]; rfl
    have hb9 := hi2.b9
    have hm : m ≤ 16384 := by
      have h1 := hw.len
      have h2 := mtQ_len pg (qfL l pre)
      have h3 : (qfL l pre).length = pre.length := by simp [qfL]
      omega
    have hsn := qfL_snoc l pre x
    by_cases he : (qa l x.1).2.pos = pg
    · have HQ := hid (mtQ_yes (q := qfL l pre) he)
      rw [← hsn] at HQ
      have hd : ((qa l x.1).2.pos == pg) = true := by simpa using he
      have HI2 := hid hi2
      have HOW := hid hw
      have HV := hid hv
      clear hi2 hv hw he hsn
      generalize (qa l x.1).2 = pt at *
      generalize (qa l x.1).1 = kq at *
      obtain ⟨p1, z1, x1⟩ := pt
      simp only at *
      have hbA2 : Below W.heap.size W (W.alloc (.cells #[.int .i64 (kq : Int)] 3)) := (Below.refl _ _).alloc (Nat.le_refl _) _
      have hoA := HOW.out.below hbA2
      have HP := hid (sl_int W W.heap.size (kq : Int) rfl)
      have hBB : w1.heap.size + 1 + 1 ≤ (W.alloc (.cells #[.int .i64 (kq : Int)] 3)).heap.size := by simp; omega
      have hm8 : (m + 1) * 8 ≤ 140737488355328 := by omega
      gi_wp2_with (gi_at_builtin; refine list_round (by rintro ⟨_, _, hq⟩; exact hq) _ (by intro o ho c; simp only [List.mem_cons, List.not_mem_nil, or_false] at ho; rcases ho with rfl | rfl <;> (intro e; cases e)) _ _ ?_; refine append_il rfl (.tmp 28) (.tmp 30) rfl (w1.heap.size + 1 + 1) _ m _ rfl hoA.row (some ⟨W.heap.size, 0, none⟩) 1 1 [(kq : Int)] rfl HP.out hm8 hBB ?_; intro bo2 c2 w2 ho2 hg2 _)
      obtain ⟨⟨g0, g1⟩, k1, k2, k3, k4⟩ := HI2.out.more HV.out HOW.out hg2 ho2 (by decide) W0.heap.size
      have HK := hid k1
      have HK2 := hid k2
      have HK3 := hid k3
      have HK4 := hid k4
      clear k1 k2 k3 k4 ho2 hg2 hoA
      go_wp2
      exact ⟨HK.out, HK2.out, Nat.le_trans hi0 HK3.out, by rw [HQ.out]; exact HK4.out⟩
    · have HQ := hid (mtQ_no (q := qfL l pre) he)
      rw [← hsn] at HQ
      have hd : ((qa l x.1).2.pos == pg) = false := by simpa using he
      have HI2 := hid hi2
      clear hi2 hv hw he hsn
      generalize (qa l x.1).2 = pt at *
      obtain ⟨p1, z1, x1⟩ := pt
      simp only at *
      gi_wp2
      exact ⟨(KeepsOthers.refl W).from _, KpP.refl _ _, hi0, by rw [HQ.out]; exact HI2.out⟩
  case done =>
    rintro D xs W hD rfl ⟨hi0, hi2⟩ hK
    rw [qfL_all, HMT.out] at hi2
    have HI2 := hid hi2
    have HK := hid hK
    obtain ⟨bo, m, c, hv, hw⟩ := hi2.var
    have c2 : W.cell? ⟨w1.heap.size + 1, 0, none⟩ = some (.slice bo m c) := by rw [cell_of_row W _ 0 _ 24 (0, 0) hv]; rfl
    have HOW := hid hw
    clear hi2 hK hv hw
    simp only
    go_wp2
    have hof : Off (fun j => j = D) W (W.putObj D (.deferred none)) := Off.of_grown (grownBy_putObj' W D _) (fun j hj => Or.inl (Option.some.inj hj).symm)
    refine ⟨by simp, .inl ⟨_, _, rfl, run_takeDeferred HK.out, ?_⟩⟩
    refine ⟨_, results_tmp rfl _ _ _, ?_⟩
    refine ⟨bo, m, c, rfl, (HOW.out.off hof (fun a e hf => ?_)).mono (by omega), HI2.out.low.trans (hof.below (fun j hj => by omega) HI2.out.low.size)⟩
    subst e
    obtain ⟨_, _, cur, hcur⟩ := own_cells HOW.out
    rw [hf, HK.out] at hcur
    cases hcur
  case stop =>
    rintro D c pre W _ _ hx _
    exact hx.elim
theorem mates_ps (P : Int) (hP : P ≤ 9223372036854775807) (ao : Option Addr) (n cap : Nat) (l : List Spn) (pg : Int) (hpg : Rg pg) (w : World) (T : Cws w) (h : Ps w ao n cap l) (hn : n ≤ 8796093022208) :
    Calls Tryd.prog 14 #[.int .i64 P, .slice ao n cap, .int .i64 pg] w fun e w' => ∃ bo m c, e = .returned (.slice bo m c) ∧ Own .i64 3 w.heap.size w' bo m c (mtL P l pg) ∧ Below w.heap.size w w' := by
  by_cases hr : RightO P l
  · obtain ⟨N, rfl⟩ := Int.eq_ofNat_of_zero_le hr.rng.1
    rw [mt_t hr, h.len]
    exact mates_right N (by have := hr.rng; omega) ao n cap l pg w T h hn hr
  · rw [mt_f hr]
    refine (mates_wrong P ao n cap l pg w T h hn hr).mono ?_
    rintro e w' ⟨rfl, hb⟩
    exact ⟨none, 0, 0, rfl, own_nil _ _ _ _, hb⟩
end Go.Proofs.YtlghhhhgfnnjgaaDoor
