/- pages.Mates by its contract. -/
import Derived.Test.YtlghhhhgfnnjgabDoorHpG
import Derived.Test.YtlghhhhgfnnjgabDoorAppI
import Derived.Test.YtlghhhhgfnnjgabDoorFewI
namespace Go.Proofs.YtlghhhhgfnnjgabDoor
set_option maxRecDepth 100000
open Go.RowKit Go.Shelf
set_option linter.unusedVariables false
set_option linter.unusedSimpArgs false
set_option maxRecDepth 100000

/-- Operations that are no defer statements are in a round what they are everywhere. -/
theorem list_round {l n : Nat} {P : Program} {ops : Array Oper} {Q : Exit → Act → World → Prop} (hQ : ¬ LetsOut Q) :
    ∀ (rest : List Oper), (∀ o ∈ rest, ∀ c, o.op ≠ .defer c) → ∀ (a : Act) (w : World), wpList P ops Q rest a w → wpListIn (Fence.wide.inRound l) n P ops Q rest a w
  | [], _, _, _, h => h
  | o :: rest, hd, a, w, h => by
    unfold wpList at h
    unfold wpListIn
    by_cases hw : Region.wanted o (yielded ops a.tmps) = true
    · rw [if_pos hw] at h ⊢
      rcases h with h | h
      · exact op_round (hd o (by simp)) (Oper.wp_mono (fun a w => list_round hQ rest (fun o ho => hd o (by simp [ho])) a w) h)
      · exact absurd h.2 hQ
    · rw [if_neg hw] at h ⊢
      exact ⟨fun _ _ => trivial, list_round hQ rest (fun o ho => hd o (by simp [ho])) _ _ h⟩
/-- Numbers and parts of some. -/
def qfL (l : List Spn) (pre : List (Fin (prQ l).length)) : List (Nat × Blk) := pre.map (fun x => qa l x.1)
theorem qfL_snoc (l : List Spn) (pre : List (Fin (prQ l).length)) (x : Fin (prQ l).length) : qfL l (pre ++ [x]) = qfL l pre ++ [qa l x.1] := by simp [qfL]
theorem qfL_all (l : List Spn) : qfL l (List.finRange (prQ l).length) = prQ l := by
  apply List.ext_getElem?
  intro i
  by_cases h : i < (prQ l).length
  · simp [qfL, qa, List.getD, h]
  · simp [qfL, h]
/-- The variables of Mates. -/
structure MtI (w : World) (b9 : Nat) (pg : Int) (zs : List Int) (W : World) : Prop where
  var : ∃ bo m c, W.heap[b9]? = some (.cells #[.slice bo m c] 22 (0, 0)) ∧ Own .i64 3 (b9 + 1) W bo m c zs
  pb : W.heap[w.heap.size]? = some (.cells #[.int .i64 pg] 3 (0, 0))
  low : Below w.heap.size w W
  lt : w.heap.size < b9
theorem MtI.b9 {w : World} {b9 : Nat} {pg : Int} {zs : List Int} {W : World} (h : MtI w b9 pg zs W) : b9 < W.heap.size := by
  obtain ⟨bo, m, c, hv, _⟩ := h.var
  exact (Array.getElem?_eq_some_iff.1 hv).1
theorem own_cells {B : Nat} {W : World} {a : Addr} {m c : Nat} {zs : List Int} (h : Own .i64 3 B W (some a) m c zs) : B ≤ a.block ∧ a.block < W.heap.size ∧ ∃ cur, W.heap[a.block]? = some (.cells cur 3 (0, 0)) := by
  rcases h.row.2 with ⟨hv, _⟩ | ⟨g, cap', cur, hv, hg, hh, _⟩
  · cases hv
  · simp only [Value.slice.injEq, Option.some.injEq] at hv
    obtain ⟨rfl, _, _⟩ := hv
    exact ⟨hg, (Array.getElem?_eq_some_iff.1 hh).1, cur, hh⟩
theorem MtI.to {w : World} {b9 : Nat} {pg : Int} {zs : List Int} {W W' : World} (h : MtI w b9 pg zs W) {F : Nat → Prop} (ho : Off F W W') (hF : ∀ j, F j → b9 < j) (hc : ∀ j cur t z, F j → W.heap[j]? = some (.cells cur t z) → False) : MtI w b9 pg zs W' := by
  obtain ⟨bo, m, c, hv, hw⟩ := h.var
  have hlt := h.lt
  have hl9 := h.b9
  refine ⟨⟨bo, m, c, (ho.block _ hl9 (fun e => by have := hF _ e; omega)).trans hv, hw.off ho (fun a e hf => ?_)⟩, (ho.block _ (by omega) (fun e => by have := hF _ e; omega)).trans h.pb, h.low.trans (ho.below (fun j hj => by have := hF j hj; omega) (by omega)), hlt⟩
  subst e
  obtain ⟨_, _, cur, hcur⟩ := own_cells hw
  exact hc _ _ _ _ hf hcur
theorem MtI.kept {w : World} {b9 : Nat} {pg : Int} {zs : List Int} {W W' : World} (h : MtI w b9 pg zs W) (hb : Below W.heap.size W W') : MtI w b9 pg zs W' := h.to (F := fun _ => False) (Off.of_below hb) (fun _ h => h.elim) (fun _ _ _ _ h _ => h.elim)
theorem off_more {F G : Nat → Prop} {w w' : World} (h : Off F w w') (hs : ∀ j, F j → G j) : Off G w w' := ⟨h.os, h.tape, h.output, h.size, fun k hk hn => h.block k hk (fun c => hn (hs k c))⟩
/-- A number appended, and the variable stored. -/
theorem MtI.more {w : World} {b9 : Nat} {pg : Int} {zs ys : List Int} {W w2 : World} {bo bo2 : Option Addr} {m c m2 c2 : Nat} {X : Obj} (h : MtI w b9 pg zs W) (hv : W.heap[b9]? = some (.cells #[.slice bo m c] 22 (0, 0))) (hw : Own .i64 3 (b9 + 1) W bo m c zs)
    (hg : (W.alloc X).grownBy w2 (Value.slice bo m c).ownBlock) (ho : Own .i64 3 (b9 + 1) w2 bo2 m2 c2 ys) (hne : ¬ (3 : Nat) = 32 ∧ ¬ (3 : Nat) = 54 ∧ ¬ (22 : Nat) = 32 ∧ ¬ (22 : Nat) = 54) (B : Nat) :
    (w2.cell? ⟨b9, 0, none⟩ = some (.slice bo m c) ∧ w2.frozen? ⟨b9, 0, none⟩ = false) ∧ KeepsFrom B W (w2.setCell ⟨b9, 0, none⟩ (.slice bo2 m2 c2)) ∧ KpP w.heap.size W (w2.setCell ⟨b9, 0, none⟩ (.slice bo2 m2 c2)) ∧ W.heap.size ≤ (w2.setCell ⟨b9, 0, none⟩ (.slice bo2 m2 c2)).heap.size ∧ MtI w b9 pg ys (w2.setCell ⟨b9, 0, none⟩ (.slice bo2 m2 c2)) := by
  have hl9 := h.b9
  have hlt := h.lt
  have o1 : Off (fun j => ∃ a, bo = some a ∧ a.block = j) W w2 := (Off.of_below (F := fun j => ∃ a, bo = some a ∧ a.block = j) ((Below.refl _ W).alloc (Nat.le_refl _) X)).trans (F' := fun j => ∃ a, bo = some a ∧ a.block = j) (Off.of_grown hg (fun j hj => Or.inl (by
    cases bo with
    | none => cases hj
    | some a => simp only [Value.ownBlock, Option.some.injEq] at hj; exact ⟨a, rfl, hj⟩))) (fun j hj => Or.inl hj)
  have hF : ∀ j, (∃ a, bo = some a ∧ a.block = j) → b9 + 1 ≤ j ∧ ∃ cur, W.heap[j]? = some (.cells cur 3 (0, 0)) := by
    rintro j ⟨a, rfl, rfl⟩
    obtain ⟨h1, _, h3⟩ := own_cells hw
    exact ⟨h1, h3⟩
  have hv2 : w2.heap[b9]? = some (.cells #[.slice bo m c] 22 (0, 0)) := (o1.block b9 hl9 (fun e => by have := (hF _ e).1; omega)).trans hv
  have o2 : Off (fun j => j = b9 ∨ ∃ a, bo = some a ∧ a.block = j) W (w2.setCell ⟨b9, 0, none⟩ (.slice bo2 m2 c2)) := (off_more (G := fun j => j = b9 ∨ ∃ a, bo = some a ∧ a.block = j) o1 (fun j hj => Or.inr hj)).trans (F' := fun j => j = b9) (Off.setCell (F := fun j => j = b9) (Off.refl _ w2) ⟨b9, 0, none⟩ (.slice bo2 m2 c2) rfl) (fun j hj => Or.inl (Or.inl hj))
  have key : ∀ (j : Nat) (o : Obj), W.heap[j]? = some o → (∀ (cur : Array Value) (t : TypeId) (z : Nat × Nat), o = .cells cur t z → ¬ t = 3 ∧ ¬ t = 22) → (w2.setCell ⟨b9, 0, none⟩ (.slice bo2 m2 c2)).heap[j]? = some o := fun j o hj ht => by
    refine (o2.block j (Array.getElem?_eq_some_iff.1 hj).1 ?_).trans hj
    rintro (e | e)
    · rw [e, hv] at hj
      exact (ht _ _ _ (Option.some.inj hj).symm).2 rfl
    · obtain ⟨_, cur, hcur⟩ := hF j e
      rw [hcur] at hj
      exact (ht _ _ _ (Option.some.inj hj).symm).1 rfl
  refine ⟨⟨by rw [cell_of_row w2 b9 0 _ 22 (0, 0) hv2]; rfl, frozen_of_row w2 b9 0 _ 22 hv2⟩, ⟨o2.size, fun k o _ hk hc => key k o hk (fun cur t z e => by rw [e] at hc; cases hc)⟩, ⟨o2.below (fun j hj => ?_) (by omega), fun j c' t z hty hj => key j _ hj (fun cur t' z' e => ?_)⟩, o2.size, ⟨⟨bo2, m2, c2, ?_, ho.off (F := fun j => j = b9) (Off.setCell (F := fun j => j = b9) (Off.refl _ w2) ⟨b9, 0, none⟩ (.slice bo2 m2 c2) rfl) (fun a e he => ?_)⟩, ?_, h.low.trans (o2.below (fun j hj => ?_) (by omega)), hlt⟩⟩
  · rcases hj with hj | hj
    · omega
    · have := (hF j hj).1; omega
  · cases e
    rcases hty with rfl | rfl
    · exact ⟨fun e => hne.1 e.symm, fun e => hne.2.2.1 e.symm⟩
    · exact ⟨fun e => hne.2.1 e.symm, fun e => hne.2.2.2 e.symm⟩
  · rw [heap_setCell_same w2 b9 0 _ 22 _ hv2]; rfl
  · subst e
    have := (own_cells ho).1
    omega
  · refine (o2.block _ (by omega) ?_).trans h.pb
    rintro (e | e)
    · omega
    · have := (hF _ e).1; omega
  · rcases hj with hj | hj
    · omega
    · have := (hF j hj).1; omega
/-- Right objects are few. -/
theorem RightO.few {N : Nat} {l : List Spn} (h : RightO N l) : l.length ≤ 2048 := by
  have hN := h.rng
  have h1 := few_ints 2048 (l.map (·.pos)) (List.pairwise_map.2 (h.fit.imp fun hab => hab.1)) (fun x hx => by
    obtain ⟨o, ho, rfl⟩ := List.mem_map.1 hx
    have hin := h.lie o ho
    have hl := hin.len
    have hw := hin.within
    have hk := hin.pgk
    unfold pgA at hw
    omega)
  simpa using h1
theorem prK_few (l : List Spn) (k : Nat) : (prK l k).length ≤ 8 * k := by
  induction k with
  | zero => simp [prK]
  | succ k ih =>
    rw [prK_succ, List.length_append, List.length_map]
    have := prO_len (pa l k)
    omega
attribute [local go_sem] Oper.semAt_some
end Go.Proofs.YtlghhhhgfnnjgabDoor
