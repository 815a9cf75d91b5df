/- NodR · RefTreD · RefTreE · RefTreF · TreeQ: these texts, one behind another. -/
import Derived.Test.YthkloknongkpdaaRefTreA
import Derived.Test.YthkloknongkpdaaMtE
import Derived.Deep.RegionHeld3
/- Rows of nodes (four cells each, one of them a slice of words), and words appended two by two. -/
namespace Go.Proofs.Ythkloknongkpdaa
set_option maxRecDepth 100000
open Go.RowKit
set_option linter.unusedVariables false
set_option linter.unusedSimpArgs false

/-- A node: its words, how many pairs, whether it is a leaf, the first key beneath it. -/
structure Nod where
  ws : List Int
  cnt : Int
  leaf : Bool
  fst : Int
/-- One in memory: where its words lie. -/
structure Nde where
  bo : Option Addr
  m : Nat
  c : Nat
  x : Nod
def Nde.z : Nde := ⟨none, 0, 0, ⟨[], 0, false, 0⟩⟩
def Nde.cells (d : Nde) : List Value := [.slice d.bo d.m d.c, .int .i64 d.x.cnt, .bool d.x.leaf, .int .i64 d.x.fst]
def cellsN (l : List Nde) : List Value := l.flatMap Nde.cells
def na (l : List Nde) (i : Nat) : Nde := l.getD i Nde.z
theorem na_mem {l : List Nde} {i : Nat} (h : i < l.length) : na l i ∈ l := by
  simp only [na, List.getD, List.getElem?_eq_getElem h, Option.getD_some]
  exact List.getElem_mem _
theorem cellsN_length (l : List Nde) : (cellsN l).length = l.length * 4 := by
  induction l with
  | nil => rfl
  | cons a r ih => simp only [cellsN, List.flatMap_cons, List.length_append, List.length_cons, Nde.cells]; simp only [cellsN] at ih; rw [ih]; simp; omega
theorem cellsN_append (a b : List Nde) : cellsN (a ++ b) = cellsN a ++ cellsN b := by simp [cellsN]
theorem cellsN_get (l : List Nde) {i j : Nat} (h : i < l.length) (hj : j < 4) : (cellsN l)[i * 4 + j]? = (na l i).cells[j]? := by
  induction l generalizing i with
  | nil => simp at h
  | cons a r ih =>
    cases i with
    | zero =>
      simp only [cellsN, List.flatMap_cons]
      rw [Nat.zero_mul, Nat.zero_add, List.getElem?_append_left (by simp [Nde.cells]; omega)]
      rfl
    | succ i =>
      have := ih (i := i) (by simpa using h)
      simp only [cellsN, List.flatMap_cons] at this ⊢
      rw [List.getElem?_append_right (by simp [Nde.cells]; omega)]
      have e : (i + 1) * 4 + j - a.cells.length = i * 4 + j := by simp [Nde.cells]; omega
      rw [e, this]
      rfl
theorem cellsN_one (l : List Nde) : ∀ u ∈ cellsN l, u.oneCell' = true := by
  intro u hu
  simp only [cellsN, List.mem_flatMap] at hu
  obtain ⟨s, _, hs⟩ := hu
  simp only [Nde.cells, List.mem_cons, List.not_mem_nil, or_false] at hs
  rcases hs with rfl | rfl | rfl | rfl <;> rfl
/-- A slice of n nodes at the head of a row of the call's own, and their words. -/
structure OwN (B : Nat) (w : World) (ao : Option Addr) (n cap : Nat) (l : List Nde) : Prop where
  len : l.length = n
  row : w.ownsRow B 64 4 (.slice ao n cap) n (cellsN l)
  own : ∀ d ∈ l, Own .i64 3 B w d.bo d.m d.c d.x.ws
theorem owN_nil (B : Nat) (w : World) : OwN B w none 0 0 [] := ⟨rfl, World.ownsRow_nil _ _ _ _, fun s hs => by cases hs⟩
theorem OwN.below {B : Nat} {w w' : World} {ao : Option Addr} {n cap : Nat} {l : List Nde} (h : OwN B w ao n cap l) (hb : Below w.heap.size w w') : OwN B w' ao n cap l := by
  refine ⟨h.len, ⟨h.row.1, ?_⟩, fun d hd => (h.own d hd).below hb⟩
  rcases h.row.2 with hn | ⟨g, cap', cur, hv, hg, hh, r⟩
  · exact Or.inl hn
  · refine Or.inr ⟨g, cap', cur, hv, hg, ?_, r⟩
    rw [hb.block g (Array.getElem?_eq_some_iff.1 hh).1]
    exact hh
theorem OwN.mono {B B' : Nat} {w : World} {ao : Option Addr} {n cap : Nat} {l : List Nde} (h : OwN B w ao n cap l) (hB : B' ≤ B) : OwN B' w ao n cap l := by
  refine ⟨h.len, ⟨h.row.1, ?_⟩, fun d hd => (h.own d hd).mono hB⟩
  rcases h.row.2 with hn | ⟨g, cap', cur, hv, hg, r⟩
  · exact Or.inl hn
  · exact Or.inr ⟨g, cap', cur, hv, Nat.le_trans hB hg, r⟩
theorem OwN.shape {B : Nat} {w : World} {ao : Option Addr} {n cap : Nat} {l : List Nde} (h : OwN B w ao n cap l) (hn : 0 < n) : ∃ g, ao = some ⟨g, 0, none⟩ ∧ B ≤ g ∧ g < w.heap.size := by
  rcases h.row.2 with ⟨hv, h0⟩ | ⟨g, cap', cur, hv, hg, hh, _⟩
  · omega
  · simp only [Value.slice.injEq] at hv
    exact ⟨g, hv.1, hg, (Array.getElem?_eq_some_iff.1 hh).1⟩
theorem OwN.at {B : Nat} {w : World} {g n cap : Nat} {l : List Nde} (h : OwN B w (some ⟨g, 0, none⟩) n cap l) {i : Nat} (hi : i < n) :
    w.cell? ⟨g, i * 4, none⟩ = some (.slice (na l i).bo (na l i).m (na l i).c) ∧ w.cell? ⟨g, i * 4 + 1, none⟩ = some (.int .i64 (na l i).x.cnt) ∧ w.cell? ⟨g, i * 4 + 2, none⟩ = some (.bool (na l i).x.leaf) ∧ w.cell? ⟨g, i * 4 + 3, none⟩ = some (.int .i64 (na l i).x.fst) := by
  have hl := h.len
  rcases h.row.2 with ⟨hv, h0⟩ | ⟨g', cap', cur, hv, hg, hh, hc, hm, hs, ht⟩
  · omega
  · simp only [Value.slice.injEq, Option.some.injEq, Addr.mk.injEq, and_true] at hv
    obtain ⟨rfl, _, rfl⟩ := hv
    have key : ∀ j u, j < 4 → (na l i).cells[j]? = some u → w.cell? ⟨g, i * 4 + j, none⟩ = some u := fun j u hj hu => by
      have h1 := cellsN_get l (i := i) (j := j) (by omega) hj
      rw [hu, ← ht, List.getElem?_take, if_pos (by omega), Array.getElem?_toList] at h1
      rw [cell_of_row w g _ cur 64 (0, 0) hh]
      exact h1
    exact ⟨key 0 _ (by omega) rfl, key 1 _ (by omega) rfl, key 2 _ (by omega) rfl, key 3 _ (by omega) rfl⟩
theorem info_nod : (Try.prog.info? 64).map (fun i => (i.zero, i.size, i.bytes)) = some (some (.agg #[.slice none 0 0, .int .i64 0, .bool false, .int .i64 0]), 4, 48) := by kernel_rfl
/-- Words' rows are of another type than nodes'. -/
theorem own_int {B : Nat} {W : World} {a : Addr} {m c : Nat} {zs : List Int} (h : Own .i64 3 B W (some a) m c zs) : B ≤ a.block ∧ a.block < W.heap.size ∧ ∃ cur, W.heap[a.block]? = some (.cells cur 3 (0, 0)) := by
  rcases h.row.2 with ⟨hv, _⟩ | ⟨g, cap', cur, hv, hg, hh, _⟩
  · cases hv
  · simp only [Value.slice.injEq, Option.some.injEq] at hv
    obtain ⟨rfl, _, _⟩ := hv
    exact ⟨hg, (Array.getElem?_eq_some_iff.1 hh).1, cur, hh⟩
theorem own_grown {B B' : Nat} {w w' : World} {v : Value} {n s : Nat} {xs : List Value} {t : TypeId} {bo : Option Addr} {m c : Nat} {zs : List Int} (hr : w.ownsRow B t s v n xs) (hne : ¬ (3 : Nat) = t) (hg : w.grownBy w' v.ownBlock) (h : Own .i64 3 B' w bo m c zs) : Own .i64 3 B' w' bo m c zs := by
  refine h.off (F := fun j => v.ownBlock = some j) (Off.of_grown hg (fun j hj => Or.inl hj)) (fun a e hf => ?_)
  subst e
  obtain ⟨_, _, cur, hcur⟩ := own_int h
  rcases hr.2 with ⟨hv, _⟩ | ⟨g, cap', cur', hv, hg', hh, _⟩
  · rw [hv] at hf; cases hf
  · rw [hv] at hf
    simp only [Value.ownBlock, Option.some.injEq] at hf
    rw [← hf, hh] at hcur
    cases hcur
    exact hne rfl
/-- 'append(l, n)' of one node. -/
theorem append_ns {w : World} {ops : Array Oper} {rest : List Oper} {o : Oper} {a : Act} {Q : Exit → Act → World → Prop} (hgd : o.guard = none) (s x : Operand)
    (ho : o.op = .call { callee := .builtin .append, args := #[s, x], argTypes := #[62, 62] })
    (B : Nat) (v : Value) (n : Nat) (l : List Nde) (hs : a.eval s = v) (hl : l.length = n) (hown : w.ownsRow B 64 4 v n (cellsN l)) (hxr : ∀ d ∈ l, Own .i64 3 B w d.bo d.m d.c d.x.ws)
    (g : Nat) (d : Nde) (hx : a.eval x = .slice (some ⟨g, 0, none⟩) 1 1) (hd : ∀ j u, d.cells[j]? = some u → w.cell? ⟨g, j, none⟩ = some u) (hdo : Own .i64 3 B w d.bo d.m d.c d.x.ws) (hb : (n + 1) * 48 ≤ 140737488355328) (hB : B ≤ w.heap.size)
    (h : ∀ bo c' w', OwN B w' bo (n + 1) c' (l ++ [d]) → w.grownBy w' v.ownBlock → wpList Try.prog ops Q rest (a.put o.dst (.slice bo (n + 1) c')) w') : wpList Try.prog ops Q (o :: rest) a w := by
  obtain ⟨i0, hi, hz0, hz1, hz2⟩ := info_parts info_nod
  refine wpList_append_own _ hgd s x 62 ho B 64 i0 (.agg #[.slice none 0 0, .int .i64 0, .bool false, .int .i64 0]) 4 48 Try.underlying62 hi hz0 hz1 hz2 rfl (by decide) v n _ hs hown ⟨g, 0, none⟩ 1 1 (cellsN [d]) hx (by rw [cellsN_length]; rfl) (fun j u hu => ?_) (cellsN_one _) (by unfold maxLen; omega) (by omega) hB ?_
  · rw [Addr.add_lit, Nat.zero_add]
    exact hd j u (by simpa [cellsN] using hu)
  · intro v' w' hown' hgrow hnil
    obtain ⟨bo, c', rfl⟩ := own_sliceB hown'
    refine h bo c' w' ⟨by simp [hl], by rw [cellsN_append]; exact hown', fun e he => ?_⟩ hgrow
    rcases List.mem_append.1 he with he | he
    · exact own_grown hown (by decide) hgrow (hxr e he)
    · rw [List.mem_singleton.1 he]
      exact own_grown hown (by decide) hgrow hdo
/-- 'append(s, x, y)' of ints as a step of a region that draws its order. -/
theorem step_append_il {w : World} {ops : Array Oper} {o : Oper} {a : Act} {K : Act → World → Prop} {Q : Exit → Act → World → Prop} {E : Prop} (hgd : o.guard = none) (s x : Operand)
    (ho : o.op = .call { callee := .builtin .append, args := #[s, x], argTypes := #[22, 22] })
    (B : Nat) (v : Value) (n : Nat) (xs : List Int) (hs : a.eval s = v) (hown : w.ownsRow B 3 1 v n (xs.map (Value.int .i64)))
    (ad : Addr) (m c : Nat) (zs : List Int) (hx : a.eval x = .slice (some ad) m c) (hsl : Sl .i64 w (some ad) m c zs) (hb : (n + m) * 8 ≤ 140737488355328) (hB : B ≤ w.heap.size)
    (h : ∀ bo c' w', Own .i64 3 B w' bo (n + m) c' (xs ++ zs) → w.grownBy w' v.ownBlock → K (a.put o.dst (.slice bo (n + m) c')) w') :
    if Region.wanted o (yielded ops a.tmps) = true then Oper.wp Try.prog o a w K Q else E := by
  have hw : Region.wanted o (yielded ops a.tmps) = true := by simp [Region.wanted, hgd]
  rw [if_pos hw]
  obtain ⟨i0, hi, hz0, hz1, hz2⟩ := info_parts Try.info3
  have hxl : xs.length = n := by have := hown.1; simpa using this
  obtain ⟨v', w', hrun, r1, r2, _⟩ := run_append_own (P := Try.prog) w B 22 o.type 3 i0 (.int .i64 0) 1 8 Try.underlying22 hi hz0 hz1 hz2 rfl (by decide) v n _ hown ad m c (zs.map (Value.int .i64)) (by simp [hsl.len]) hsl.cells (ints_oneCell _ _) (by unfold maxLen; omega) (by omega) hB
  obtain ⟨bo, c', rfl⟩ := own_slice r1
  unfold Oper.wp
  simp [execOp, ho, resolve, invoke, builtin, hs, hx, hrun, Result.andThen]
  exact h bo c' w' ⟨by simp [hxl, hsl.len], by simpa using r1⟩ r2
/-- '[]int{x, y}'. -/
theorem sl_int2 (w : World) (k : Nat) (x y : Int) (hk : w.heap.size = k) : Sl .i64 (w.alloc (.cells #[.int .i64 x, .int .i64 y] 3)) (some ⟨k, 0, none⟩) 2 2 [x, y] := by
  subst hk
  refine ⟨rfl, Nat.le_refl _, (by intro h; cases h), fun _ => ⟨_, _, rfl, by simp, fun i hi => ?_⟩⟩
  have e := cell_of_row (w.alloc (.cells #[.int .i64 x, .int .i64 y] 3)) w.heap.size i _ 3 (0, 0) (heap_alloc_new w _)
  rcases (show i = 0 ∨ i = 1 by omega) with rfl | rfl
  · exact e
  · exact e
end Go.Proofs.Ythkloknongkpdaa
/- joistref14.leaves by its contract. -/
namespace Go.Proofs.Ythkloknongkpdaa
set_option maxRecDepth 100000
open Go.RowKit
set_option linter.unusedVariables false
set_option linter.unusedSimpArgs false
set_option maxRecDepth 100000

/-- A node in a block of its own. -/
def NBx (w : World) (b : Nat) (d : Nde) : Prop := w.heap[b]? = some (.cells #[.slice d.bo d.m d.c, .int .i64 d.x.cnt, .bool d.x.leaf, .int .i64 d.x.fst] 64 (0, 0))
theorem NBx.lt {w : World} {b : Nat} {d : Nde} (h : NBx w b d) : b < w.heap.size := (Array.getElem?_eq_some_iff.1 h).1
theorem NBx.kept {w w' : World} {b : Nat} {d : Nde} (h : NBx w b d) (hb : Below w.heap.size w w') : NBx w' b d := (hb.block b h.lt).trans h
theorem NBx.off {F : Nat → Prop} {w w' : World} {b : Nat} {d : Nde} (h : NBx w b d) (ho : Off F w w') (hn : ¬ F b) : NBx w' b d := (ho.block b h.lt hn).trans h
theorem NBx.cell {w : World} {b : Nat} {d : Nde} (h : NBx w b d) : w.cell? ⟨b, 0, none⟩ = some (.slice d.bo d.m d.c) ∧ w.cell? ⟨b, 1, none⟩ = some (.int .i64 d.x.cnt) ∧ w.cell? ⟨b, 2, none⟩ = some (.bool d.x.leaf) ∧ w.cell? ⟨b, 3, none⟩ = some (.int .i64 d.x.fst) :=
  ⟨by rw [cell_of_row w b 0 _ 64 (0, 0) h]; rfl, by rw [cell_of_row w b 1 _ 64 (0, 0) h]; rfl, by rw [cell_of_row w b 2 _ 64 (0, 0) h]; rfl, by rw [cell_of_row w b 3 _ 64 (0, 0) h]; rfl⟩
theorem NBx.free {w : World} {b : Nat} {d : Nde} (h : NBx w b d) (k : Nat) : w.frozen? ⟨b, k, none⟩ = false := frozen_of_row w b k _ 64 h
theorem NBx.set0 {w : World} {b : Nat} {d : Nde} (h : NBx w b d) (bo : Option Addr) (m c : Nat) (ws : List Int) : NBx (w.setCell ⟨b, 0, none⟩ (.slice bo m c)) b ⟨bo, m, c, ⟨ws, d.x.cnt, d.x.leaf, d.x.fst⟩⟩ := by
  unfold NBx
  rw [heap_setCell_same w b 0 _ 64 _ h]; rfl
theorem NBx.set1 {w : World} {b : Nat} {d : Nde} (h : NBx w b d) (n : Int) : NBx (w.setCell ⟨b, 1, none⟩ (.int .i64 n)) b ⟨d.bo, d.m, d.c, ⟨d.x.ws, n, d.x.leaf, d.x.fst⟩⟩ := by
  unfold NBx
  rw [heap_setCell_same w b 1 _ 64 _ h]; rfl
theorem NBx.set3 {w : World} {b : Nat} {d : Nde} (h : NBx w b d) (n : Int) : NBx (w.setCell ⟨b, 3, none⟩ (.int .i64 n)) b ⟨d.bo, d.m, d.c, ⟨d.x.ws, d.x.cnt, d.x.leaf, n⟩⟩ := by
  unfold NBx
  rw [heap_setCell_same w b 3 _ 64 _ h]; rfl
/-- The words of a node under way. -/
structure NWy (b : Nat) (w : World) (d : Nde) : Prop where
  bx : NBx w b d
  own : Own .i64 3 (b + 1) w d.bo d.m d.c d.x.ws
theorem off_below {F : Nat → Prop} {B : Nat} {w w' : World} (h : Off F w w') (hF : ∀ j, F j → B ≤ j) (hB : B ≤ w.heap.size) : Below B w w' := h.below hF hB
/-- Two words appended: the variable stored. -/
theorem NWy.more {b : Nat} {W : World} {d : Nde} {X : Obj} {w2 : World} {bo2 : Option Addr} {m2 c2 : Nat} {ys : List Int} (h : NWy b W d) (hg : (W.alloc X).drew.grownBy w2 (Value.slice d.bo d.m d.c).ownBlock) (ho : Own .i64 3 (b + 1) w2 bo2 m2 c2 ys) :
    NBx w2 b d ∧ NWy b (w2.setCell ⟨b, 0, none⟩ (.slice bo2 m2 c2)) ⟨bo2, m2, c2, ⟨ys, d.x.cnt, d.x.leaf, d.x.fst⟩⟩ ∧ Below b W w2 ∧ Below b W (w2.setCell ⟨b, 0, none⟩ (.slice bo2 m2 c2)) := by
  have hl := h.bx.lt
  have hbA : Below W.heap.size W (W.alloc X).drew := ((Below.refl _ _).alloc (Nat.le_refl _) X).drew
  have o1 : Off (fun j => b + 1 ≤ j) W w2 := (Off.of_below (F := fun j => b + 1 ≤ j) hbA).trans (F' := fun j => b + 1 ≤ j) (Off.of_grown hg (fun j hj => Or.inl (h.own.row.lt j hj).1)) (fun j hj => Or.inl hj)
  have hx2 := h.bx.off o1 (by omega)
  have b2 : Below b W w2 := o1.below (fun j hj => by omega) (by omega)
  refine ⟨hx2, ⟨hx2.set0 bo2 m2 c2 ys, ho.off (F := fun j => j = b) (Off.setCell (F := fun j => j = b) (Off.refl _ w2) ⟨b, 0, none⟩ (.slice bo2 m2 c2) rfl) (fun a e he => ?_)⟩, b2, b2.setCell (Nat.le_refl _) _⟩
  have := (ho.row.lt a.block (by rw [e]; rfl)).1
  omega
theorem NWy.count {b : Nat} {W : World} {d : Nde} (h : NWy b W d) (n : Int) : NWy b (W.setCell ⟨b, 1, none⟩ (.int .i64 n)) ⟨d.bo, d.m, d.c, ⟨d.x.ws, n, d.x.leaf, d.x.fst⟩⟩ :=
  ⟨h.bx.set1 n, h.own.off (F := fun j => j = b) (Off.setCell (F := fun j => j = b) (Off.refl _ W) ⟨b, 1, none⟩ (.int .i64 n) rfl) (fun a e he => by have := (h.own.row.lt a.block (by rw [e]; rfl)).1; omega)⟩
theorem NWy.first {b : Nat} {W : World} {d : Nde} (h : NWy b W d) (n : Int) : NWy b (W.setCell ⟨b, 3, none⟩ (.int .i64 n)) ⟨d.bo, d.m, d.c, ⟨d.x.ws, d.x.cnt, d.x.leaf, n⟩⟩ :=
  ⟨h.bx.set3 n, h.own.off (F := fun j => j = b) (Off.setCell (F := fun j => j = b) (Off.refl _ W) ⟨b, 3, none⟩ (.int .i64 n) rfl) (fun a e he => by have := (h.own.row.lt a.block (by rw [e]; rfl)).1; omega)⟩
theorem NWy.kept {b : Nat} {W W' : World} {d : Nde} (h : NWy b W d) (hb : Below W.heap.size W W') : NWy b W' d := ⟨h.bx.kept hb, h.own.below hb⟩
/-- The first pairs of a leaf. -/
def psP (l : List Blk) (i j : Nat) : List (Int × Int) := ((l.drop (7 * i)).take j).map xpP
theorem psP_zero (l : List Blk) (i : Nat) : psP l i 0 = [] := by simp [psP]
theorem psP_next {l : List Blk} {i j : Nat} (h : 7 * i + j < l.length) : psP l i (j + 1) = psP l i j ++ [xpP (ba l (7 * i + j))] := by
  unfold psP
  have hd : j < (l.drop (7 * i)).length := by simp; omega
  rw [List.take_add_one, List.map_append]
  congr 1
  rw [List.getElem?_eq_getElem hd]
  simp [ba, List.getD, h]
theorem psP_all {l : List Blk} {i j : Nat} (h : j = 7 ∨ l.length ≤ 7 * i + j) (h7 : j ≤ 7) : psP l i j = psN l 0 i := by
  unfold psP psN
  congr 1
  rcases h with rfl | h
  · rfl
  · rw [List.take_of_length_le (by simp; omega), List.take_of_length_le (by simp; omega)]
theorem prL_snoc2 (ps : List (Int × Int)) (p : Int × Int) : prL (ps ++ [p]) = prL ps ++ [p.1, p.2] := by simp [prL]
theorem psP_len {l : List Blk} {i j : Nat} (h : 7 * i + j ≤ l.length) : (psP l i j).length = j := by simp [psP]; omega
/-- A leaf. -/
def lfX (l : List Blk) (i : Nat) : Nod := ⟨prL (psN l 0 i), (psN l 0 i).length, true, if (psN l 0 i).length = 0 then 0 else (ba l (7 * i)).pos⟩
set_option maxHeartbeats 4000000 in
theorem rleaves_bs (P : Int) (ao : Option Addr) (n cap : Nat) (l : List Blk) (w : World) (h : Bs w ao n cap l) (hr : RightX P l) :
    Calls Try.prog 44 #[.slice ao n cap] w fun e w' => ∃ bo c ds, e = .returned (.slice bo (abv n) c) ∧ OwN w.heap.size w' bo (abv n) c ds ∧ ds.map (·.x) = (List.range (abv n)).map (lfX l) ∧ Below w.heap.size w w' := by
  have hl := h.len
  have hn : n ≤ 64 := by have := hr.n64; omega
  have hab : abv n ≤ 10 := by unfold abv; omega
  have cA := fun w' => rabove_any n (by omega) w'
  have HX : Hid (∀ k, k < n → 0 ≤ (ba l k).pos ∧ (ba l k).pos ≤ 64 ∧ 1 ≤ (ba l k).sz ∧ (ba l k).sz ≤ 64 ∧ 0 ≤ (ba l k).ix ∧ (ba l k).ix ≤ 2) := hid (fun k hk => hr.ext (ba_mem (by omega)))
  clear hr
  go_enter Try.func44, Try.ntmps44
  go_wp2
  go_loopw [3, 4] (fun s3 s4 wr => ∃ (i : Nat) (bo : Option Addr) (c : Nat) (ds : List Nde), i ≤ abv n ∧ s3 = .slice bo i c ∧ s4 = .int .i64 i ∧ Hid (OwN w.heap.size wr bo i c ds) ∧ Hid (ds.map (·.x) = (List.range i).map (lfX l)) ∧ Below w.heap.size w wr) (fun _ s4 _ => abv n - (intOf s4).toNat)
  case atStart => exact ⟨0, none, 0, [], Nat.zero_le _, rfl, rfl, hid (owN_nil _ _), hid rfl, Below.refl _ _⟩
  case round =>
    obtain ⟨i, bo, c, ds, hi, rfl, rfl, HO, HM, hb⟩ := hrel
    obtain ⟨wo, rfl⟩ : ∃ wo, wo = wr := ⟨wr, rfl⟩
    by_cases hlt : i < abv n
    · have hii : (i : Int) < (abv n : Nat) := by omega
      have x1 : IntKind.i64.wrap (7 * (i : Int)) = ((7 * i : Nat) : Int) := by rw [IntWalk.i64_in _ ⟨by omega, by omega⟩]; omega
      have HN0 : Hid (NWy wo.heap.size (wo.alloc (.cells #[.slice none 0 0, .int .i64 0, .bool true, .int .i64 0] 64)) ⟨none, 0, 0, ⟨[], 0, true, 0⟩⟩) := hid ⟨heap_alloc_new wo _, own_nil _ _ _ _⟩
      have hb1 : Below wo.heap.size wo (wo.alloc (.cells #[.slice none 0 0, .int .i64 0, .bool true, .int .i64 0] 64)) := (Below.refl _ _).alloc (Nat.le_refl _) _
      go_wp2_with (go_at_call 45; with_reducible refine (cA _).mono ?_; rintro e w' ⟨rfl, rfl⟩)
      generalize wo.alloc (.cells #[.slice none 0 0, .int .i64 0, .bool true, .int .i64 0] 64) = W1 at *
      go_loopw [6] (fun s6 wr => ∃ (j : Nat) (bo' : Option Addr) (c' : Nat), j ≤ 7 ∧ (j = 0 ∨ 7 * i + j ≤ n) ∧ s6 = .int .i64 ((7 * i + j : Nat) : Int) ∧ Hid (NWy wo.heap.size wr ⟨bo', 2 * j, c', ⟨prL (psP l i j), j, true, 0⟩⟩) ∧ Below wo.heap.size wo wr) (fun s6 _ => 7 * i + 7 - (intOf s6).toNat)
      case atStart => exact ⟨0, none, 0, by omega, .inl rfl, rfl, HN0, hb1⟩
      case round =>
        clear HN0 hb1
        obtain ⟨j, bo', c', hj7, hjn, rfl, HN, hbq⟩ := hrel
        have y1 : IntKind.i64.wrap ((i : Int) + 1) = (i : Int) + 1 := IntWalk.i64_in _ ⟨by omega, by omega⟩
        have y2 : IntKind.i64.wrap (7 * ((i : Int) + 1)) = ((7 * i + 7 : Nat) : Int) := by rw [IntWalk.i64_in _ ⟨by omega, by omega⟩]; omega
        have hxl := HN.out.bx.lt
        obtain ⟨q0, q1, q2, q3⟩ := HN.out.bx.cell
        have f0 := HN.out.bx.free 0
        have f1 := HN.out.bx.free 1
        have f3 := HN.out.bx.free 3
        simp only at q0 q1 q2 q3
        by_cases hA : 7 * i + j < n ∧ j < 7
        · obtain ⟨b, off, rfl, hbl, _⟩ := h.here (by omega)
          have hbw := next hb hbq
          obtain ⟨c0, c1, c2⟩ := h.at hbw hA.1
          obtain ⟨e1, e2, e3, e4, e5, e6⟩ := HX.out _ hA.1
          have hki : ((7 * i + j : Nat) : Int) < (n : Int) := by omega
          have hk7 : ((7 * i + j : Nat) : Int) < ((7 * i + 7 : Nat) : Int) := by omega
          have HPN := hid (psP_next (l := l) (i := i) (j := j) (by omega))
          have hne : b ≠ wo.heap.size := by have := hb.size; omega
          have hne' : wo.heap.size ≠ b := fun e => hne e.symm
          have hneq : b ≠ wr.heap.size := by have := hbw.size; omega
          have Hcl : Hid (∀ w', Below w.heap.size w w' → w'.cell? ⟨b, off + (7 * i + j) * 3, none⟩ = some (.int .i64 (ba l (7 * i + j)).pos) ∧ w'.cell? ⟨b, off + (7 * i + j) * 3 + 1, none⟩ = some (.int .i64 (ba l (7 * i + j)).sz) ∧ w'.cell? ⟨b, off + (7 * i + j) * 3 + 2, none⟩ = some (.int .i64 (ba l (7 * i + j)).ix)) := hid (fun w' hb' => ⟨(h.at hb' hA.1).c0, (h.at hb' hA.1).c1, (h.at hb' hA.1).c2⟩)
          have hj6 : j < 7 := hA.2
          have h8 : (2 * j + 2) * 8 ≤ 140737488355328 := by omega
          obtain ⟨kk, hkk⟩ : ∃ kk, 7 * i + j = kk := ⟨_, rfl⟩
          have HKK := hid hkk
          rw [hkk] at c0 c1 c2 e1 e2 e3 e4 e5 e6 hki hk7 HPN Hcl ⊢
          obtain ⟨s7, hs7⟩ : ∃ s7, 7 * i + 7 = s7 := ⟨_, rfl⟩
          have HS7 := hid hs7
          rw [hs7] at hk7 y2
          have hk1 : kk < n := by omega
          have hk2 : kk < s7 := by omega
          clear h hA hkk hs7 cA
          generalize ba l kk = xt at *
          obtain ⟨p, z, x⟩ := xt
          simp only [xpP] at *
          have x4 : IntKind.i64.wrap (4 * z) = 4 * z := IntWalk.i64_in _ ⟨by omega, by omega⟩
          have x5 : IntKind.i64.wrap (4 * z + x) = 4 * z + x := IntWalk.i64_in _ ⟨by omega, by omega⟩
          have bA : Below wr.heap.size wr (wr.alloc (.cells #[.int .i64 p, .int .i64 (4 * z + x)] 3)).drew := ((Below.refl _ _).alloc (Nat.le_refl _) _).drew
          have HP : Hid (Sl .i64 (wr.alloc (.cells #[.int .i64 p, .int .i64 (4 * z + x)] 3)).drew (some ⟨wr.heap.size, 0, none⟩) 2 2 [p, 4 * z + x]) := hid ((sl_int2 wr wr.heap.size p (4 * z + x) rfl).below (Below.refl _ _).drew)
          have HXr := hid (HN.out.own.below bA).row
          have Hsz : Hid (wo.heap.size + 1 ≤ (wr.alloc (.cells #[.int .i64 p, .int .i64 (4 * z + x)] 3)).drew.heap.size) := hid (by have := bA.size; omega)
          have HMO : Hid (∀ w2 bo2 c2 ys, (wr.alloc (.cells #[.int .i64 p, .int .i64 (4 * z + x)] 3)).drew.grownBy w2 (Value.slice bo' (2 * j) c').ownBlock → Own .i64 3 (wo.heap.size + 1) w2 bo2 (2 * j + 2) c2 ys → NBx w2 wo.heap.size ⟨bo', 2 * j, c', ⟨prL (psP l i j), j, true, 0⟩⟩ ∧ NWy wo.heap.size (w2.setCell ⟨wo.heap.size, 0, none⟩ (.slice bo2 (2 * j + 2) c2)) ⟨bo2, 2 * j + 2, c2, ⟨ys, j, true, 0⟩⟩ ∧ Below wo.heap.size wo w2 ∧ Below wo.heap.size wo (w2.setCell ⟨wo.heap.size, 0, none⟩ (.slice bo2 (2 * j + 2) c2))) := hid (fun w2 bo2 c2 ys hg ho => by
            obtain ⟨k1, k2, k3, k4⟩ := HN.out.more hg ho
            exact ⟨k1, k2, hbq.trans k3, hbq.trans k4⟩)
          have HBW : Hid (∀ w2, Below wo.heap.size wo w2 → Below w.heap.size w w2) := hid (fun w2 h2 => next hb h2)
          have HPL : Hid (prL (psP l i (j + 1)) = prL (psP l i j) ++ [p, 4 * z + x]) := hid (by rw [HPN.out, prL_snoc2])
          clear HN HPN
          have k4 := Hcl.out _ (next hbw bA)
          have q0' : (wr.alloc (.cells #[.int .i64 p, .int .i64 (4 * z + x)] 3)).drew.cell? ⟨wo.heap.size, 0, none⟩ = some (.slice bo' (2 * j) c') := (bA.cell (p := ⟨wo.heap.size, 0, none⟩) hxl).trans q0
          go_wp2_with fail
          refine wp_region_held_drew (S := fun w' => w'.cell? ⟨b, off + kk * 3, none⟩ = some (.int .i64 p) ∧ w'.cell? ⟨b, off + kk * 3 + 1, none⟩ = some (.int .i64 z) ∧ w'.cell? ⟨b, off + kk * 3 + 2, none⟩ = some (.int .i64 x)) (by kernel_rfl) ⟨c0, c1, c2⟩ (fun hH => ?_)
          refine wpAnyH_take (i := 0) (v := ?_) (List.getElem?_toArray.trans rfl) (by kernel_rfl) (by kernel_rfl) (by kernel_rfl) (fun _ _ _ h => h) (Or.inl ⟨by rfl, ?_⟩) (by assumption) ?_
          rotate_left
          · (intro w hSw; obtain ⟨u0, u1, u2⟩ := hSw; go_simp; try (with_reducible rfl))
          simp only [Act.put, List.setIfInBounds_toArray, List.set_cons_zero, List.set_cons_succ]
          refine wpAnyH_take (i := 2) (v := ?_) (List.getElem?_toArray.trans rfl) (by kernel_rfl) (by kernel_rfl) (by kernel_rfl) (fun _ _ _ h => h) (Or.inl ⟨by rfl, ?_⟩) (by assumption) ?_
          rotate_left
          · (intro w hSw; obtain ⟨u0, u1, u2⟩ := hSw; go_simp; try (with_reducible rfl))
          simp only [Act.put, List.setIfInBounds_toArray, List.set_cons_zero, List.set_cons_succ]
          refine wpAnyH_take (i := 3) (v := ?_) (List.getElem?_toArray.trans rfl) (by kernel_rfl) (by kernel_rfl) (by kernel_rfl) (fun _ _ _ h => h) (Or.inl ⟨by rfl, ?_⟩) (by assumption) ?_
          rotate_left
          · (intro w hSw; obtain ⟨u0, u1, u2⟩ := hSw; go_simp; try (with_reducible rfl))
          simp only [Act.put, List.setIfInBounds_toArray, List.set_cons_zero, List.set_cons_succ]
          refine wpAnyH_take (i := 4) (v := ?_) (List.getElem?_toArray.trans rfl) (by kernel_rfl) (by kernel_rfl) (by kernel_rfl) (fun _ _ _ h => h) (Or.inl ⟨by rfl, ?_⟩) (by assumption) ?_
          rotate_left
          · (intro w hSw; obtain ⟨u0, u1, u2⟩ := hSw; go_simp; try (with_reducible rfl))
          simp only [Act.put, List.setIfInBounds_toArray, List.set_cons_zero, List.set_cons_succ]
          refine wpAnyH_take (i := 5) (v := ?_) (List.getElem?_toArray.trans rfl) (by kernel_rfl) (by kernel_rfl) (by kernel_rfl) (fun _ _ _ h => h) (Or.inl ⟨by rfl, ?_⟩) (by assumption) ?_
          rotate_left
          · (intro w hSw; obtain ⟨u0, u1, u2⟩ := hSw; go_simp; try (with_reducible rfl))
          simp only [Act.put, List.setIfInBounds_toArray, List.set_cons_zero, List.set_cons_succ]
          refine wpAnyH_take (i := 6) (v := ?_) (List.getElem?_toArray.trans rfl) (by kernel_rfl) (by kernel_rfl) (by kernel_rfl) (fun _ _ _ h => h) (Or.inl ⟨by rfl, ?_⟩) (by assumption) ?_
          rotate_left
          · (intro w hSw; obtain ⟨u0, u1, u2⟩ := hSw; go_simp; try (with_reducible rfl))
          simp only [Act.put, List.setIfInBounds_toArray, List.set_cons_zero, List.set_cons_succ]
          refine wpAnyH_take (i := 7) (v := ?_) (List.getElem?_toArray.trans rfl) (by kernel_rfl) (by kernel_rfl) (by kernel_rfl) (fun _ _ _ h => h) (Or.inl ⟨by rfl, ?_⟩) (by assumption) ?_
          rotate_left
          · (intro w hSw; obtain ⟨u0, u1, u2⟩ := hSw; go_simp; try (with_reducible rfl))
          simp only [Act.put, List.setIfInBounds_toArray, List.set_cons_zero, List.set_cons_succ]
          refine wpAnyH_take (i := 8) (v := ?_) (List.getElem?_toArray.trans rfl) (by kernel_rfl) (by kernel_rfl) (by kernel_rfl) (fun _ _ _ h => h) (Or.inl ⟨by rfl, ?_⟩) (by assumption) ?_
          rotate_left
          · (intro w hSw; obtain ⟨u0, u1, u2⟩ := hSw; go_simp; try (with_reducible rfl))
          simp only [Act.put, List.setIfInBounds_toArray, List.set_cons_zero, List.set_cons_succ]
          refine wpAnyH_take (i := 9) (v := ?_) (List.getElem?_toArray.trans rfl) (by kernel_rfl) (by kernel_rfl) (by kernel_rfl) (fun _ _ _ h => h) (Or.inl ⟨by rfl, ?_⟩) (by assumption) ?_
          rotate_left
          · (intro w hSw; obtain ⟨u0, u1, u2⟩ := hSw; go_simp; try (with_reducible rfl))
          simp only [Act.put, List.setIfInBounds_toArray, List.set_cons_zero, List.set_cons_succ]
          refine wpAnyH_take (i := 10) (v := ?_) (List.getElem?_toArray.trans rfl) (by kernel_rfl) (by kernel_rfl) (by kernel_rfl) (fun _ _ _ h => h) (Or.inl ⟨by rfl, ?_⟩) (by assumption) ?_
          rotate_left
          · (intro w hSw; obtain ⟨u0, u1, u2⟩ := hSw; go_simp; try (with_reducible rfl))
          simp only [Act.put, List.setIfInBounds_toArray, List.set_cons_zero, List.set_cons_succ]
          refine wpAnyH_take (i := 11) (v := ?_) (List.getElem?_toArray.trans rfl) (by kernel_rfl) (by kernel_rfl) (by kernel_rfl) (fun _ _ _ h => h) (Or.inl ⟨by rfl, ?_⟩) (by assumption) ?_
          rotate_left
          · (intro w hSw; obtain ⟨u0, u1, u2⟩ := hSw; go_simp; try (with_reducible rfl))
          simp only [Act.put, List.setIfInBounds_toArray, List.set_cons_zero, List.set_cons_succ]
          refine wpAnyH_take (i := 12) (v := ?_) (List.getElem?_toArray.trans rfl) (by kernel_rfl) (by kernel_rfl) (by kernel_rfl) (fun _ _ _ h => h) (Or.inl ⟨by rfl, ?_⟩) (by assumption) ?_
          rotate_left
          · (intro w hSw; obtain ⟨u0, u1, u2⟩ := hSw; go_simp; try (with_reducible rfl))
          simp only [Act.put, List.setIfInBounds_toArray, List.set_cons_zero, List.set_cons_succ]
          refine wpAnyH_take (i := 13) (v := ?_) (List.getElem?_toArray.trans rfl) (by kernel_rfl) (by kernel_rfl) (by kernel_rfl) (fun _ _ _ h => h) (Or.inl ⟨by rfl, ?_⟩) (by assumption) ?_
          rotate_left
          · (intro w hSw; obtain ⟨u0, u1, u2⟩ := hSw; go_simp; try (with_reducible rfl))
          simp only [Act.put, List.setIfInBounds_toArray, List.set_cons_zero, List.set_cons_succ]
          refine wpAnyH_take (i := 14) (v := ?_) (List.getElem?_toArray.trans rfl) (by kernel_rfl) (by kernel_rfl) (by kernel_rfl) (fun _ _ _ h => h) (Or.inl ⟨by rfl, ?_⟩) (by assumption) ?_
          rotate_left
          · (intro w hSw; obtain ⟨u0, u1, u2⟩ := hSw; go_simp; try (with_reducible rfl))
          simp only [Act.put, List.setIfInBounds_toArray, List.set_cons_zero, List.set_cons_succ]
          refine wpAnyH_take (i := 15) (v := ?_) (List.getElem?_toArray.trans rfl) (by kernel_rfl) (by kernel_rfl) (by kernel_rfl) (fun _ _ _ h => h) (Or.inl ⟨by rfl, ?_⟩) (by assumption) ?_
          rotate_left
          · (intro w hSw; obtain ⟨u0, u1, u2⟩ := hSw; go_simp; try (with_reducible rfl))
          simp only [Act.put, List.setIfInBounds_toArray, List.set_cons_zero, List.set_cons_succ]
          refine wpAnyH_take (i := 16) (v := ?_) (List.getElem?_toArray.trans rfl) (by kernel_rfl) (by kernel_rfl) (by kernel_rfl) (fun _ _ _ h => h) (Or.inl ⟨by rfl, ?_⟩) (by assumption) ?_
          rotate_left
          · (intro w hSw; obtain ⟨u0, u1, u2⟩ := hSw; go_simp; try (with_reducible rfl))
          simp only [Act.put, List.setIfInBounds_toArray, List.set_cons_zero, List.set_cons_succ]
          refine wpAnyH_take (i := 17) (v := ?_) (List.getElem?_toArray.trans rfl) (by kernel_rfl) (by kernel_rfl) (by kernel_rfl) (fun _ _ _ h => h) (Or.inl ⟨by rfl, ?_⟩) (by assumption) ?_
          rotate_left
          · (intro w hSw; obtain ⟨u0, u1, u2⟩ := hSw; go_simp; try (with_reducible rfl))
          simp only [Act.put, List.setIfInBounds_toArray, List.set_cons_zero, List.set_cons_succ]
          refine wpAnyH_take (i := 18) (v := ?_) (List.getElem?_toArray.trans rfl) (by kernel_rfl) (by kernel_rfl) (by kernel_rfl) (fun _ _ _ h => h) (Or.inl ⟨by rfl, ?_⟩) (by assumption) ?_
          rotate_left
          · (intro w hSw; obtain ⟨u0, u1, u2⟩ := hSw; go_simp; try (with_reducible rfl))
          simp only [Act.put, List.setIfInBounds_toArray, List.set_cons_zero, List.set_cons_succ]
          refine wpAnyH_ready (rs := [1, 19]) (by kernel_rfl) (by simp) ?_
          refine AllReadyH.cons (List.getElem?_toArray.trans rfl) (fun K1 hK1 => ?_) (AllReadyH.cons (List.getElem?_toArray.trans rfl) (fun K1 hK1 => ?_) AllReadyH.nil)
          · go_simp
            refine hK1.out _ _ (by assumption) (fun hHeld => ?_)
            clear hK1 K1
            refine wpAnyH_ready (rs := [19]) (by kernel_rfl) (by simp) ?_
            refine AllReadyH.cons (List.getElem?_toArray.trans rfl) (fun K2 hK2 => ?_) AllReadyH.nil
            go_simp
            refine hK2.out _ _ k4 (fun hHeld2 => ?_)
            clear hK2 K2
            refine wpAnyH_ready (rs := [20]) (by kernel_rfl) (by simp) ?_
            refine AllReadyH.cons (List.getElem?_toArray.trans rfl) (fun K3 hK3 => ?_) AllReadyH.nil
            refine step_append_il rfl (.tmp 31) (.tmp 49) rfl (wo.heap.size + 1) (.slice bo' (2 * j) c') (2 * j) (prL (psP l i j)) rfl HXr.out ⟨wr.heap.size, 0, none⟩ 2 2 [p, 4 * z + x] rfl HP.out h8 Hsz.out ?_
            intro bo2 c2' w2 ho2 hg2
            obtain ⟨m1, m2, m3, m4⟩ := HMO.out w2 bo2 c2' _ hg2 ho2
            have t1 := Hcl.out w2 (HBW.out w2 m3)
            have t2 := Hcl.out _ (HBW.out _ m4)
            obtain ⟨r0, r1, r2, r3⟩ := m1.cell
            have r4 := m1.free 0
            have HM2 := hid m2
            have HM4 := hid m4
            clear ho2 hg2 m1 m2 m3 m4
            refine hK3.out _ _ t1 (fun hHeld3 => ?_)
            clear hK3 K3
            simp only [Act.put, List.setIfInBounds_toArray, List.set_cons_zero, List.set_cons_succ]
            refine wpAnyH_take (i := 21) (v := ?_) (List.getElem?_toArray.trans rfl) (by kernel_rfl) (by kernel_rfl) (by kernel_rfl) (fun _ _ _ h => h) (Or.inl ⟨by rfl, ?_⟩) (by assumption) ?_
            rotate_left
            · (intro w hSw; obtain ⟨u0, u1, u2⟩ := hSw; go_simp; try (with_reducible rfl))
            simp only [Act.put, List.setIfInBounds_toArray, List.set_cons_zero, List.set_cons_succ]
            refine wpAnyH_ready (rs := [22]) (by kernel_rfl) (by simp) ?_
            refine AllReadyH.cons (List.getElem?_toArray.trans rfl) (fun K4 hK4 => ?_) AllReadyH.nil
            go_simp
            refine hK4.out _ _ t2 (fun hHeld4 => ?_)
            clear hK4 K4
            refine wpAnyH_done (by kernel_rfl) ?_ _
            clear t1 t2 hHeld3 hHeld4 hH
            obtain ⟨v0, v1, v2, v3⟩ := HM2.out.bx.cell
            have v4 := HM2.out.bx.free 1
            have HCn := hid (HM2.out.count ((j : Int) + 1))
            have HBn : Hid (Below wo.heap.size wo ((w2.setCell ⟨wo.heap.size, 0, none⟩ (.slice bo2 (2 * j + 2) c2')).setCell ⟨wo.heap.size, 1, none⟩ (.int .i64 ((j : Int) + 1)))) := hid (HM4.out.setCell (Nat.le_refl _) _)
            have x6 : IntKind.i64.wrap ((j : Int) + 1) = (j : Int) + 1 := IntWalk.i64_in _ ⟨by omega, by omega⟩
            have x7 : IntKind.i64.wrap ((kk : Int) + 1) = ((7 * i + (j + 1) : Nat) : Int) := by have := HKK.out; rw [IntWalk.i64_in _ ⟨by omega, by omega⟩]; omega
            simp only at v0 v1 v2 v3 HCn
            clear r0 r1 r2 r3 r4 HM2 HM4
            generalize w2.setCell ⟨wo.heap.size, 0, none⟩ (.slice bo2 (2 * j + 2) c2') = w3 at *
            go_wp2
            go_roundw
            case rel => exact ⟨j + 1, bo2, c2', by omega, .inr (by have := HKK.out; omega), rfl, by rw [HPL.out]; exact HCn, HBn.out⟩
            case measure => (have := HKK.out; simp [intOf]; omega)
          · go_simp
            refine hK1.out _ _ k4 (fun hHeld => ?_)
            clear hK1 K1
            refine wpAnyH_ready (rs := [1]) (by kernel_rfl) (by simp) ?_
            refine AllReadyH.cons (List.getElem?_toArray.trans rfl) (fun K2 hK2 => ?_) AllReadyH.nil
            go_simp
            refine hK2.out _ _ k4 (fun hHeld2 => ?_)
            clear hK2 K2
            refine wpAnyH_ready (rs := [20]) (by kernel_rfl) (by simp) ?_
            refine AllReadyH.cons (List.getElem?_toArray.trans rfl) (fun K3 hK3 => ?_) AllReadyH.nil
            refine step_append_il rfl (.tmp 31) (.tmp 49) rfl (wo.heap.size + 1) (.slice bo' (2 * j) c') (2 * j) (prL (psP l i j)) rfl HXr.out ⟨wr.heap.size, 0, none⟩ 2 2 [p, 4 * z + x] rfl HP.out h8 Hsz.out ?_
            intro bo2 c2' w2 ho2 hg2
            obtain ⟨m1, m2, m3, m4⟩ := HMO.out w2 bo2 c2' _ hg2 ho2
            have t1 := Hcl.out w2 (HBW.out w2 m3)
            have t2 := Hcl.out _ (HBW.out _ m4)
            obtain ⟨r0, r1, r2, r3⟩ := m1.cell
            have r4 := m1.free 0
            have HM2 := hid m2
            have HM4 := hid m4
            clear ho2 hg2 m1 m2 m3 m4
            refine hK3.out _ _ t1 (fun hHeld3 => ?_)
            clear hK3 K3
            simp only [Act.put, List.setIfInBounds_toArray, List.set_cons_zero, List.set_cons_succ]
            refine wpAnyH_take (i := 21) (v := ?_) (List.getElem?_toArray.trans rfl) (by kernel_rfl) (by kernel_rfl) (by kernel_rfl) (fun _ _ _ h => h) (Or.inl ⟨by rfl, ?_⟩) (by assumption) ?_
            rotate_left
            · (intro w hSw; obtain ⟨u0, u1, u2⟩ := hSw; go_simp; try (with_reducible rfl))
            simp only [Act.put, List.setIfInBounds_toArray, List.set_cons_zero, List.set_cons_succ]
            refine wpAnyH_ready (rs := [22]) (by kernel_rfl) (by simp) ?_
            refine AllReadyH.cons (List.getElem?_toArray.trans rfl) (fun K4 hK4 => ?_) AllReadyH.nil
            go_simp
            refine hK4.out _ _ t2 (fun hHeld4 => ?_)
            clear hK4 K4
            refine wpAnyH_done (by kernel_rfl) ?_ _
            clear t1 t2 hHeld3 hHeld4 hH
            obtain ⟨v0, v1, v2, v3⟩ := HM2.out.bx.cell
            have v4 := HM2.out.bx.free 1
            have HCn := hid (HM2.out.count ((j : Int) + 1))
            have HBn : Hid (Below wo.heap.size wo ((w2.setCell ⟨wo.heap.size, 0, none⟩ (.slice bo2 (2 * j + 2) c2')).setCell ⟨wo.heap.size, 1, none⟩ (.int .i64 ((j : Int) + 1)))) := hid (HM4.out.setCell (Nat.le_refl _) _)
            have x6 : IntKind.i64.wrap ((j : Int) + 1) = (j : Int) + 1 := IntWalk.i64_in _ ⟨by omega, by omega⟩
            have x7 : IntKind.i64.wrap ((kk : Int) + 1) = ((7 * i + (j + 1) : Nat) : Int) := by have := HKK.out; rw [IntWalk.i64_in _ ⟨by omega, by omega⟩]; omega
            simp only at v0 v1 v2 v3 HCn
            clear r0 r1 r2 r3 r4 HM2 HM4
            generalize w2.setCell ⟨wo.heap.size, 0, none⟩ (.slice bo2 (2 * j + 2) c2') = w3 at *
            go_wp2
            go_roundw
            case rel => exact ⟨j + 1, bo2, c2', by omega, .inr (by have := HKK.out; omega), rfl, by rw [HPL.out]; exact HCn, HBn.out⟩
            case measure => (have := HKK.out; simp [intOf]; omega)
        · have hpa := psP_all (l := l) (i := i) (j := j) (by omega) hj7
          have hpl : (psN l 0 i).length = j := by
            rw [← hpa]
            rcases hjn with rfl | hjn
            · rw [psP_zero]; rfl
            · exact psP_len (by omega)
          have HAP : Hid (∀ (W : World) (d : Nde), Below wo.heap.size wo W → NWy wo.heap.size W d → OwN w.heap.size W bo i c ds ∧ Own .i64 3 w.heap.size W d.bo d.m d.c d.x.ws ∧ Below w.heap.size w W) := hid (fun W d hW hd => ⟨HO.out.below hW, hd.own.mono (by have := hb.size; omega), next hb hW⟩)
          have HMM : Hid (∀ d : Nde, d.x = lfX l i → (ds ++ [d]).map (·.x) = (List.range (i + 1)).map (lfX l)) := hid (fun d hd => by rw [List.map_append, HM.out, List.range_succ, List.map_append, List.map_singleton, hd]; rfl)
          have h48 : (i + 1) * 48 ≤ 140737488355328 := by omega
          have HDS : Hid (ds.length = i) := hid HO.out.len
          have x8 : IntKind.i64.wrap ((i : Int) + 1) = ((i + 1 : Nat) : Int) := by rw [y1]; omega
          by_cases hj0 : j = 0
          · have HJ0 := hid hj0
            have hk0 : ¬ (((7 * i + j : Nat) : Int) < (n : Int)) := by omega
            have hk0' : ¬ (7 * i + j < n) := by omega
            have hp0 : ¬ (0 < (j : Int)) := by omega
            have hp0' : ¬ (0 < j) := by omega
            have HNf := HN
            have HWB := hid hbq
            have hbZ : Below wr.heap.size wr (wr.alloc (.cells #[.slice bo' (2 * j) c', .int .i64 (j : Int), .bool true, .int .i64 0] 64)) := (Below.refl _ _).alloc (Nat.le_refl _) _
            obtain ⟨a1, a2, a3⟩ := HAP.out _ _ HWB.out HNf.out
            have A1 := a1.below hbZ
            have A2 := hid (a2.below hbZ)
            have A3 := next a3 hbZ
            have A4 := A3.size
            have HCE : Hid (∀ k u, (Nde.cells (⟨bo', 2 * j, c', ⟨prL (psP l i j), j, true, 0⟩⟩ : Nde))[k]? = some u → (wr.alloc (.cells #[.slice bo' (2 * j) c', .int .i64 (j : Int), .bool true, .int .i64 0] 64)).cell? ⟨wr.heap.size, k, none⟩ = some u) := hid (fun k u hu => by
              rw [cell_of_row _ wr.heap.size k _ 64 (0, 0) (heap_alloc_new wr _)]
              simpa [Nde.cells] using hu)
            have HRW := hid A1.row
            have HOX := hid A1.own
            have HGB : Hid (∀ w5, (wr.alloc (.cells #[.slice bo' (2 * j) c', .int .i64 (j : Int), .bool true, .int .i64 0] 64)).grownBy w5 (Value.slice bo i c).ownBlock → Below w.heap.size w w5) := hid (fun w5 hg => A3.grown hg A4 (fun k hk => (A1.row.lt k hk).1))
            clear a1 a2 a3 A1
            have hfx : (⟨prL (psP l i j), (j : Int), true, 0⟩ : Nod) = lfX l i := by
              unfold lfX
              rw [hpl, hpa, if_pos hj0]
            have HFX := hid (HMM.out (⟨bo', 2 * j, c', ⟨prL (psP l i j), j, true, 0⟩⟩ : Nde) (hfx))
            clear HMM HAP HM HN hpa hpl h hfx hj0
            go_wp2_with (at_builtin; refine append_ns rfl (.tmp 64) (.tmp 66) rfl w.heap.size _ i ds rfl HDS.out HRW.out HOX.out wr.heap.size (⟨bo', 2 * j, c', ⟨prL (psP l i j), j, true, 0⟩⟩ : Nde) rfl HCE.out A2.out h48 A4 ?_; intro bo3 c3 w5 ho5 hg5; have HO5 := hid ho5; have HB5 := hid (HGB.out w5 hg5); clear ho5 hg5)
            go_roundw
            case rel => exact ⟨i + 1, bo3, c3, _, by omega, rfl, rfl, HO5, HFX, HB5.out⟩
            case measure => simp [intOf]; omega
          · have hp0 : 0 < (j : Int) := by omega
            have hp0' : 0 < j := by omega
            obtain ⟨g, cg, hsh⟩ := own_shape HN.out.own.row (by show 0 < 2 * j; omega)
            simp only [Value.slice.injEq] at hsh
            obtain ⟨rfl, _, rfl⟩ := hsh
            have hgb : g ≠ wo.heap.size := by have := (HN.out.own.row.lt g rfl).1; omega
            have hz0 : (prL (psP l i j)).getD 0 0 = (ba l (7 * i)).pos := by
              have h1 := (prL_at (psP l i j) 0 (by rw [hpa, hpl]; omega)).1
              rw [Nat.mul_zero] at h1
              rw [h1, hpa, ps_leaf (by omega)]
              rfl
            have z0 := HN.out.own.at 0 (by show 0 < 2 * j; omega) hz0
            have hzz : (0 : Int) < ((2 * j : Nat) : Int) := by omega
            have HNf := hid (HN.out.first (ba l (7 * i)).pos)
            have HWB : Hid (Below wo.heap.size wo (wr.setCell ⟨wo.heap.size, 3, none⟩ (.int .i64 (ba l (7 * i)).pos))) := hid (hbq.setCell (Nat.le_refl _) _)
            simp only at HNf
            have hbZ : Below (wr.setCell ⟨wo.heap.size, 3, none⟩ (.int .i64 (ba l (7 * i)).pos)).heap.size (wr.setCell ⟨wo.heap.size, 3, none⟩ (.int .i64 (ba l (7 * i)).pos)) ((wr.setCell ⟨wo.heap.size, 3, none⟩ (.int .i64 (ba l (7 * i)).pos)).alloc (.cells #[.slice (some ⟨g, 0, none⟩) (2 * j) c', .int .i64 (j : Int), .bool true, .int .i64 (ba l (7 * i)).pos] 64)) := (Below.refl _ _).alloc (Nat.le_refl _) _
            obtain ⟨a1, a2, a3⟩ := HAP.out _ _ HWB.out HNf.out
            have A1 := a1.below hbZ
            have A2 := hid (a2.below hbZ)
            have A3 := next a3 hbZ
            have A4 := A3.size
            have HCE : Hid (∀ k u, (Nde.cells (⟨(some ⟨g, 0, none⟩), 2 * j, c', ⟨prL (psP l i j), j, true, (ba l (7 * i)).pos⟩⟩ : Nde))[k]? = some u → ((wr.setCell ⟨wo.heap.size, 3, none⟩ (.int .i64 (ba l (7 * i)).pos)).alloc (.cells #[.slice (some ⟨g, 0, none⟩) (2 * j) c', .int .i64 (j : Int), .bool true, .int .i64 (ba l (7 * i)).pos] 64)).cell? ⟨wr.heap.size, k, none⟩ = some u) := hid (fun k u hu => by
              have e := heap_alloc_new (wr.setCell ⟨wo.heap.size, 3, none⟩ (.int .i64 (ba l (7 * i)).pos)) (.cells #[.slice (some ⟨g, 0, none⟩) (2 * j) c', .int .i64 (j : Int), .bool true, .int .i64 (ba l (7 * i)).pos] 64)
              rw [World.size_setCell] at e
              rw [cell_of_row _ wr.heap.size k _ 64 (0, 0) e]
              simpa [Nde.cells] using hu)
            have HRW := hid A1.row
            have HOX := hid A1.own
            have HGB : Hid (∀ w5, ((wr.setCell ⟨wo.heap.size, 3, none⟩ (.int .i64 (ba l (7 * i)).pos)).alloc (.cells #[.slice (some ⟨g, 0, none⟩) (2 * j) c', .int .i64 (j : Int), .bool true, .int .i64 (ba l (7 * i)).pos] 64)).grownBy w5 (Value.slice bo i c).ownBlock → Below w.heap.size w w5) := hid (fun w5 hg => A3.grown hg A4 (fun k hk => (A1.row.lt k hk).1))
            clear a1 a2 a3 A1
            have hfx : (⟨prL (psP l i j), (j : Int), true, (ba l (7 * i)).pos⟩ : Nod) = lfX l i := by
              unfold lfX
              rw [hpl, hpa, if_neg hj0]
            by_cases hkn : 7 * i + j < n
            · have hk0 : ((7 * i + j : Nat) : Int) < (n : Int) := by omega
              have hk1 : ¬ (((7 * i + j : Nat) : Int) < ((7 * i + 7 : Nat) : Int)) := by omega
              have hk1' : ¬ (7 * i + j < 7 * i + 7) := by omega
              have HFX := hid (HMM.out (⟨(some ⟨g, 0, none⟩), 2 * j, c', ⟨prL (psP l i j), j, true, (ba l (7 * i)).pos⟩⟩ : Nde) (hfx))
              clear HMM HAP HM HN hpa hpl h hfx hz0
              go_wp2_with (at_builtin; refine append_ns rfl (.tmp 64) (.tmp 66) rfl w.heap.size _ i ds rfl HDS.out HRW.out HOX.out wr.heap.size (⟨(some ⟨g, 0, none⟩), 2 * j, c', ⟨prL (psP l i j), j, true, (ba l (7 * i)).pos⟩⟩ : Nde) rfl HCE.out A2.out h48 A4 ?_; intro bo3 c3 w5 ho5 hg5; have HO5 := hid ho5; have HB5 := hid (HGB.out w5 hg5); clear ho5 hg5)
              go_roundw
              case rel => exact ⟨i + 1, bo3, c3, _, by omega, rfl, rfl, HO5, HFX, HB5.out⟩
              case measure => simp [intOf]; omega
            · have hk0 : ¬ (((7 * i + j : Nat) : Int) < (n : Int)) := by omega
              have HFX := hid (HMM.out (⟨(some ⟨g, 0, none⟩), 2 * j, c', ⟨prL (psP l i j), j, true, (ba l (7 * i)).pos⟩⟩ : Nde) (hfx))
              clear HMM HAP HM HN hpa hpl h hfx hz0
              go_wp2_with (at_builtin; refine append_ns rfl (.tmp 64) (.tmp 66) rfl w.heap.size _ i ds rfl HDS.out HRW.out HOX.out wr.heap.size (⟨(some ⟨g, 0, none⟩), 2 * j, c', ⟨prL (psP l i j), j, true, (ba l (7 * i)).pos⟩⟩ : Nde) rfl HCE.out A2.out h48 A4 ?_; intro bo3 c3 w5 ho5 hg5; have HO5 := hid ho5; have HB5 := hid (HGB.out w5 hg5); clear ho5 hg5)
              go_roundw
              case rel => exact ⟨i + 1, bo3, c3, _, by omega, rfl, rfl, HO5, HFX, HB5.out⟩
              case measure => simp [intOf]; omega
    · obtain rfl : abv n = i := by omega
      clear h
      go_wp2_with (go_at_call 45; with_reducible refine (cA _).mono ?_; rintro e w' ⟨rfl, rfl⟩)
      go_ret
      exact ⟨bo, c, ds, rfl, HO.out, HM.out, hb⟩
end Go.Proofs.Ythkloknongkpdaa
/- joistref14.levels by its contract. -/
namespace Go.Proofs.Ythkloknongkpdaa
set_option maxRecDepth 100000
open Go.RowKit
set_option linter.unusedVariables false
set_option linter.unusedSimpArgs false
set_option maxRecDepth 100000

def noa (bs : List Nod) (k : Nat) : Nod := bs.getD k ⟨[], 0, false, 0⟩
/-- The first pairs of a node above others: the number is counted from the level's first one. -/
def upQ (bs : List Nod) (i j : Nat) : List (Int × Int) := (List.range j).map (fun k => ((noa bs (7 * i + k)).fst, ((7 * i + k : Nat) : Int)))
theorem upQ_next (bs : List Nod) (i j : Nat) : upQ bs i (j + 1) = upQ bs i j ++ [((noa bs (7 * i + j)).fst, ((7 * i + j : Nat) : Int))] := by simp [upQ, List.range_succ]
def upX (bs : List Nod) (i : Nat) : Nod := ⟨prL (upQ bs i (min 7 (bs.length - 7 * i))), ((min 7 (bs.length - 7 * i) : Nat) : Int), false, (noa bs (7 * i)).fst⟩
/-- The nodes of a level. -/
def lvN (l : List Blk) : Nat → List Nod
  | 0 => (List.range (abv l.length)).map (lfX l)
  | j + 1 => (List.range (abv (lvN l j).length)).map (upX (lvN l j))
theorem lvN_len (l : List Blk) : ∀ j, (lvN l j).length = lvC l.length j := by
  intro j
  induction j with
  | zero => simp [lvN, lvC]
  | succ j ih => simp [lvN, lvC, ih]
theorem na_noa {ds : List Nde} {bs : List Nod} (h : ds.map (·.x) = bs) {k : Nat} (hk : k < ds.length) : (na ds k).x = noa bs k := by
  subst h
  simp [na, noa, List.getD, hk]
/-- A level in memory. -/
structure Lvl where
  bo : Option Addr
  m : Nat
  c : Nat
  ds : List Nde
def cellsL (ls : List Lvl) : List Value := ls.map (fun d => .slice d.bo d.m d.c)
/-- A slice of levels at the head of a row of the call's own, and their nodes. -/
structure OwL (B : Nat) (w : World) (ao : Option Addr) (n cap : Nat) (ls : List Lvl) : Prop where
  len : ls.length = n
  row : w.ownsRow B 62 1 (.slice ao n cap) n (cellsL ls)
  own : ∀ d ∈ ls, OwN B w d.bo d.m d.c d.ds
theorem OwL.below {B : Nat} {w w' : World} {ao : Option Addr} {n cap : Nat} {ls : List Lvl} (h : OwL B w ao n cap ls) (hb : Below w.heap.size w w') : OwL B w' ao n cap ls := by
  refine ⟨h.len, ⟨h.row.1, ?_⟩, fun d hd => (h.own d hd).below hb⟩
  rcases h.row.2 with hn | ⟨g, cap', cur, hv, hg, hh, r⟩
  · exact Or.inl hn
  · refine Or.inr ⟨g, cap', cur, hv, hg, ?_, r⟩
    rw [hb.block g (Array.getElem?_eq_some_iff.1 hh).1]
    exact hh
theorem OwL.at {B : Nat} {w : World} {ao : Option Addr} {n cap : Nat} {ls : List Lvl} (h : OwL B w ao n cap ls) {i : Nat} (hi : i < n) : ∃ g, ao = some ⟨g, 0, none⟩ ∧ B ≤ g ∧ g < w.heap.size ∧ ∃ d ∈ ls, ls[i]? = some d ∧ w.cell? ⟨g, i, none⟩ = some (.slice d.bo d.m d.c) := by
  have hl := h.len
  rcases h.row.2 with ⟨hv, h0⟩ | ⟨g, cap', cur, hv, hg, hh, hc, hm, hs, ht⟩
  · omega
  · simp only [Value.slice.injEq] at hv
    obtain ⟨rfl, _, rfl⟩ := hv
    refine ⟨g, rfl, hg, (Array.getElem?_eq_some_iff.1 hh).1, ls[i]'(by omega), List.getElem_mem _, List.getElem?_eq_getElem (by omega), ?_⟩
    rw [cell_of_row w g i cur 62 (0, 0) hh, ← Array.getElem?_toList]
    have h1 : (cellsL ls)[i]? = some (.slice (ls[i]'(by omega)).bo (ls[i]'(by omega)).m (ls[i]'(by omega)).c) := by
      simp [cellsL, show i < ls.length by omega]
    rw [← ht, List.getElem?_take, if_pos (by omega)] at h1
    exact h1
theorem own_block {B : Nat} {w : World} {t : TypeId} {s n : Nat} {v : Value} {xs : List Value} (h : w.ownsRow B t s v n xs) {j : Nat} (hj : v.ownBlock = some j) : ∃ cur, w.heap[j]? = some (.cells cur t (0, 0)) := by
  rcases h.2 with ⟨hv, _⟩ | ⟨g, cap', cur, hv, hg, hh, _⟩
  · rw [hv] at hj; cases hj
  · rw [hv] at hj
    simp only [Value.ownBlock, Option.some.injEq] at hj
    subst hj
    exact ⟨cur, hh⟩
theorem OwN.grown {B B' : Nat} {w w' : World} {v : Value} {n' s : Nat} {xs : List Value} {t : TypeId} {ao : Option Addr} {n cap : Nat} {l : List Nde} (h : OwN B w ao n cap l) (hr : w.ownsRow B' t s v n' xs) (h1 : ¬ (3 : Nat) = t) (h2 : ¬ (64 : Nat) = t) (hg : w.grownBy w' v.ownBlock) : OwN B w' ao n cap l := by
  refine ⟨h.len, ⟨h.row.1, ?_⟩, fun d hd => own_grown hr h1 hg (h.own d hd)⟩
  rcases h.row.2 with hn | ⟨g, cap', cur, hv, hg', hh, r⟩
  · exact Or.inl hn
  · refine Or.inr ⟨g, cap', cur, hv, hg', ?_, r⟩
    rw [hg.block g (Array.getElem?_eq_some_iff.1 hh).1 (fun e => ?_)]
    · exact hh
    · obtain ⟨cur', hc'⟩ := own_block hr e.symm
      rw [hh] at hc'
      cases hc'
      exact h2 rfl
theorem info_lvl : (Try.prog.info? 62).map (fun i => (i.zero, i.size, i.bytes)) = some (some (.slice none 0 0), 1, 24) := by kernel_rfl
/-- 'append([][]node{up}, all...)'. -/
theorem append_ls {w0 : World} {ops : Array Oper} {rest : List Oper} {o : Oper} {a : Act} {Q : Exit → Act → World → Prop} (hgd : o.guard = none) (s x : Operand)
    (ho : o.op = .call { callee := .builtin .append, args := #[s, x], argTypes := #[60, 60] })
    (B k : Nat) (d : Lvl) (hk : w0.heap.size = k) (hs : a.eval s = .slice (some ⟨k, 0, none⟩) 1 1) (hd : OwN B w0 d.bo d.m d.c d.ds)
    (ao : Option Addr) (n cap : Nat) (ls : List Lvl) (hx : a.eval x = .slice ao n cap) (hsl : OwL B w0 ao n cap ls) (hn : 0 < n) (hn1 : n ≤ 1000) (hB : B ≤ w0.heap.size)
    (h : ∀ bo c' w', OwL B w' bo (n + 1) c' (d :: ls) → (w0.alloc (.cells #[.slice d.bo d.m d.c] 62)).grownBy w' (some k) → wpList Try.prog ops Q rest (a.put o.dst (.slice bo (n + 1) c')) w') : wpList Try.prog ops Q (o :: rest) a (w0.alloc (.cells #[.slice d.bo d.m d.c] 62)) := by
  obtain ⟨i0, hi, hz0, hz1, hz2⟩ := info_parts info_lvl
  subst hk
  have hbA : Below w0.heap.size w0 (w0.alloc (.cells #[.slice d.bo d.m d.c] 62)) := (Below.refl _ _).alloc (Nat.le_refl _) _
  have hown : (w0.alloc (.cells #[.slice d.bo d.m d.c] 62)).ownsRow B 62 1 (.slice (some ⟨w0.heap.size, 0, none⟩) 1 1) 1 (cellsL [d]) := ⟨rfl, Or.inr ⟨w0.heap.size, 1, #[.slice d.bo d.m d.c], rfl, hB, heap_alloc_new w0 _, Nat.le_refl _, by unfold maxLen; omega, rfl, rfl⟩⟩
  have hll := hsl.len
  obtain ⟨g, rfl, hgB, hgl, _⟩ := hsl.at (i := 0) hn
  have hbe := hsl.below hbA
  have hcs : ∀ j u, (cellsL ls)[j]? = some u → (w0.alloc (.cells #[.slice d.bo d.m d.c] 62)).cell? ((⟨g, 0, none⟩ : Addr).add j) = some u := fun j u hu => by
    have hj : j < n := by have := (List.getElem?_eq_some_iff.1 hu).1; simp [cellsL] at this; omega
    obtain ⟨g', e, _, _, d', _, h2, h3⟩ := hbe.at hj
    cases e
    rw [Addr.add_lit, Nat.zero_add, h3]
    simp only [cellsL, List.getElem?_map, h2, Option.map_some] at hu
    exact hu
  refine wpList_append_own _ hgd s x 60 ho B 62 i0 (.slice none 0 0) 1 24 Try.underlying60 hi hz0 hz1 hz2 rfl (by decide) _ 1 _ hs hown ⟨g, 0, none⟩ n cap (cellsL ls) hx (by simp [cellsL, hll]) hcs (fun u hu => ?_) (by unfold maxLen; omega) (by omega) (by simp; omega) ?_
  · simp only [cellsL, List.mem_map] at hu
    obtain ⟨_, _, rfl⟩ := hu
    rfl
  · intro v' w' hown' hgrow hnil
    obtain ⟨bo, c', rfl⟩ := own_sliceB hown'
    have e1 : 1 + n = n + 1 := by omega
    rw [e1] at hown' ⊢
    refine h bo c' w' ⟨by simp [hll], hown', fun e he => ?_⟩ hgrow
    rcases List.mem_cons.1 he with rfl | he
    · exact (hd.below hbA).grown hown (by decide) (by decide) hgrow
    · exact (hbe.own e he).grown hown (by decide) (by decide) hgrow
theorem hgt_top {n t : Nat} (hn : n ≤ 343) (ht : t ≤ hgt n) (h : lvC n t ≤ 1) : t = hgt n := by
  refine Decidable.byContradiction fun hne => ?_
  have hlt : t < hgt n := by omega
  have h2 := hgt_le n
  unfold hgt at hlt
  rcases (show t = 0 ∨ t = 1 by omega) with rfl | rfl
  · simp only [lvC] at h
    rw [if_pos h] at hlt
    omega
  · simp only [lvC] at h
    by_cases c : abv n ≤ 1
    · rw [if_pos c] at hlt; omega
    · rw [if_neg c, if_pos h] at hlt; omega
theorem hgt_more {n t : Nat} (hn : n ≤ 343) (ht : t ≤ hgt n) (h : ¬ lvC n t ≤ 1) : t < hgt n := by
  refine Decidable.byContradiction fun hne => h ?_
  have e : t = hgt n := by omega
  rw [e, top_one hn]
  exact Nat.le_refl _
def slLen : Value → Nat
  | .slice _ n _ => n
  | _ => 0
end Go.Proofs.Ythkloknongkpdaa
/- joistref14.levels, walked. -/
namespace Go.Proofs.Ythkloknongkpdaa
set_option maxRecDepth 100000
open Go.RowKit
set_option linter.unusedVariables false
set_option linter.unusedSimpArgs false
set_option maxRecDepth 100000

set_option maxHeartbeats 8000000 in
theorem rlevels_bs (P : Int) (ao : Option Addr) (n cap : Nat) (l : List Blk) (w : World) (h : Bs w ao n cap l) (hr : RightX P l) :
    Calls Try.prog 33 #[.slice ao n cap] w fun e w' => ∃ bo c ls, e = .returned (.slice bo (hgt n + 1) c) ∧ OwL w.heap.size w' bo (hgt n + 1) c ls ∧ (∀ i, i ≤ hgt n → ∃ d, ls[i]? = some d ∧ d.ds.map (·.x) = lvN l (hgt n - i)) ∧ Below w.heap.size w w' := by
  have hl := h.len
  have hn : n ≤ 64 := by have := hr.n64; omega
  have cL := rleaves_bs P ao n cap l w h hr
  have cA := fun (m : Nat) (hm : m ≤ 1099511627776) w' => rabove_any m hm w'
  have HLN := hid (lvN_len l)
  have hg2 := hgt_le n
  clear h hr
  go_enter Try.func33, Try.ntmps33
  go_wp2_with (go_at_call 44; with_reducible refine cL.mono ?_; rintro e w1 ⟨bo, c, ds, rfl, ho1, hm1, hb1⟩; have HO1 := hid ho1; have HM1 := hid hm1; clear ho1 hm1)
  have hbA : Below w1.heap.size w1 (w1.alloc (.cells #[.slice bo (abv n) c] 62)) := (Below.refl _ _).alloc (Nat.le_refl _) _
  have HL0 : Hid (OwL w.heap.size (w1.alloc (.cells #[.slice bo (abv n) c] 62)) (some ⟨w1.heap.size, 0, none⟩) (0 + 1) 1 [⟨bo, abv n, c, ds⟩]) := hid ⟨rfl, ⟨rfl, Or.inr ⟨w1.heap.size, 1, #[.slice bo (abv n) c], rfl, hb1.size, heap_alloc_new w1 _, Nat.le_refl _, by unfold maxLen; omega, rfl, rfl⟩⟩, fun d hd => by rw [List.mem_singleton.1 hd]; exact HO1.out.below hbA⟩
  have HS0 : Hid (∀ i, i ≤ 0 → ∃ d : Lvl, [(⟨bo, abv n, c, ds⟩ : Lvl)][i]? = some d ∧ d.ds.map (·.x) = lvN l (0 - i)) := hid (fun i hi => by
    obtain rfl : i = 0 := by omega
    refine ⟨_, rfl, ?_⟩
    show ds.map (·.x) = lvN l 0
    rw [HM1.out, lvN, hl])
  have hbB := next hb1 hbA
  clear HO1 HM1 cL hbA hb1
  generalize w1.alloc (.cells #[.slice bo (abv n) c] 62) = W0 at *
  go_loopw [3] (fun s3 wr => ∃ (t : Nat) (bo : Option Addr) (c : Nat) (ls : List Lvl), t ≤ hgt n ∧ s3 = .slice bo (t + 1) c ∧ Hid (OwL w.heap.size wr bo (t + 1) c ls) ∧ Hid (∀ i, i ≤ t → ∃ d, ls[i]? = some d ∧ d.ds.map (·.x) = lvN l (t - i)) ∧ Below w.heap.size w wr) (fun s3 _ => 5 - slLen s3)
  case atStart => exact ⟨0, _, _, _, Nat.zero_le _, rfl, HL0, HS0, hbB⟩
  case round =>
    clear HL0 HS0 hbB
    obtain ⟨t, ba0, ca, ls, ht, rfl, HL, HS, hb⟩ := hrel
    obtain ⟨wl, rfl⟩ : ∃ wl, wl = wr := ⟨wr, rfl⟩
    obtain ⟨g, rfl, hgB, hgl, d0, hd0, he0, q0⟩ := HL.out.at (i := 0) (by omega)
    have hN0 := (HL.out.own d0 hd0)
    have hx0 : d0.ds.map (·.x) = lvN l t := by
      obtain ⟨d, h1, h2⟩ := HS.out 0 (by omega)
      rw [he0] at h1
      cases h1
      exact h2
    obtain ⟨b0, N, cc, ds0⟩ := d0
    simp only at hN0 hx0 q0
    have hNl : N = lvC n t := by
      have e := congrArg List.length hx0
      rw [List.length_map, HLN.out, hl] at e
      rw [← e]; exact hN0.len.symm
    have hN10 : N ≤ 10 := by
      rw [hNl]
      rcases (show t = 0 ∨ t = 1 ∨ t = 2 by omega) with rfl | rfl | rfl <;> simp only [lvC] <;> unfold abv <;> omega
    by_cases hN1 : 1 < N
    · have hth := hgt_more (n := n) (by omega) ht (by omega)
      have hNi : 1 < (N : Int) := by omega
      obtain ⟨g0, rfl, hg0B, hg0l⟩ := hN0.shape (by omega)
      obtain ⟨bs, hbs⟩ : ∃ bs, lvN l t = bs := ⟨_, rfl⟩
      rw [hbs] at hx0
      have HBL : Hid (bs.length = N) := hid (by rw [← hx0, List.length_map]; exact hN0.len)
      have HNX : Hid (lvN l (t + 1) = (List.range (abv N)).map (upX bs)) := hid (by rw [lvN, hbs, HBL.out])
      have HFS : Hid (∀ W, Below wl.heap.size wl W → ∀ k, k < N → W.cell? ⟨g0, k * 4 + 3, none⟩ = some (.int .i64 (noa bs k).fst)) := hid (fun W hW k hk => by
        have := ((hN0.below hW).at hk).2.2.2
        rw [na_noa hx0 (by rw [hN0.len]; exact hk)] at this
        exact this)
      have hab : abv N ≤ 2 := by unfold abv; omega
      have hab7 : ∀ i, i < abv N → 7 * i < N := fun i hi => by unfold abv at hi; omega
      have HAB := hid hab7
      clear hab7 hbs hNl
      go_wp2
      go_loopw [5, 6] (fun s5 s6 wr => ∃ (i : Nat) (bo : Option Addr) (c : Nat) (ds : List Nde), i ≤ abv N ∧ s5 = .slice bo i c ∧ s6 = .int .i64 i ∧ Hid (OwN wl.heap.size wr bo i c ds) ∧ Hid (ds.map (·.x) = (List.range i).map (upX bs)) ∧ Below wl.heap.size wl wr) (fun _ s6 _ => abv N - (intOf s6).toNat)
      case atStart => exact ⟨0, none, 0, [], Nat.zero_le _, rfl, rfl, hid (owN_nil _ _), hid rfl, Below.refl _ _⟩
      case round =>
        obtain ⟨i, bo, c, ds, hi, rfl, rfl, HO, HM, hbi⟩ := hrel
        obtain ⟨wo, rfl⟩ : ∃ wo, wo = wr := ⟨wr, rfl⟩
        by_cases hlt : i < abv N
        · have hii : (i : Int) < (abv N : Nat) := by omega
          have h7 := HAB.out i hlt
          have x1 : IntKind.i64.wrap (7 * (i : Int)) = ((7 * i : Nat) : Int) := by rw [IntWalk.i64_in _ ⟨by omega, by omega⟩]; omega
          have h7i : ((7 * i : Nat) : Int) < (N : Int) := by omega
          have fc := HFS.out wo hbi (7 * i) h7
          obtain ⟨f7, hf7⟩ : ∃ f7, (noa bs (7 * i)).fst = f7 := ⟨_, rfl⟩
          rw [hf7] at fc
          have HF7 := hid hf7
          have HN0 : Hid (NWy wo.heap.size (wo.alloc (.cells #[.slice none 0 0, .int .i64 0, .bool false, .int .i64 f7] 64)) ⟨none, 0, 0, ⟨[], 0, false, f7⟩⟩) := hid ⟨heap_alloc_new wo _, own_nil _ _ _ _⟩
          have hb1 : Below wo.heap.size wo (wo.alloc (.cells #[.slice none 0 0, .int .i64 0, .bool false, .int .i64 f7] 64)) := (Below.refl _ _).alloc (Nat.le_refl _) _
          clear hf7
          go_wp2_with (go_at_call 45; with_reducible refine (cA N (by omega) _).mono ?_; rintro e w' ⟨rfl, rfl⟩)
          generalize wo.alloc (.cells #[.slice none 0 0, .int .i64 0, .bool false, .int .i64 f7] 64) = W1 at *
          go_loopw [8] (fun s8 wr => ∃ (j : Nat) (bo' : Option Addr) (c' : Nat), j ≤ 7 ∧ 7 * i + j ≤ N ∧ s8 = .int .i64 ((7 * i + j : Nat) : Int) ∧ Hid (NWy wo.heap.size wr ⟨bo', 2 * j, c', ⟨prL (upQ bs i j), j, false, f7⟩⟩) ∧ Below wo.heap.size wo wr) (fun s8 _ => 7 * i + 7 - (intOf s8).toNat)
          case atStart => exact ⟨0, none, 0, by omega, by omega, rfl, HN0, hb1⟩
          case round =>
            clear HN0 hb1
            obtain ⟨j, bo', c', hj7, hjn, rfl, HN, hbq⟩ := hrel
            have y1 : IntKind.i64.wrap ((i : Int) + 1) = (i : Int) + 1 := IntWalk.i64_in _ ⟨by omega, by omega⟩
            have y2 : IntKind.i64.wrap (7 * ((i : Int) + 1)) = ((7 * i + 7 : Nat) : Int) := by rw [IntWalk.i64_in _ ⟨by omega, by omega⟩]; omega
            have hxl := HN.out.bx.lt
            obtain ⟨p0, p1, p2, p3⟩ := HN.out.bx.cell
            have f0 := HN.out.bx.free 0
            have f1 := HN.out.bx.free 1
            simp only at p0 p1 p2 p3
            by_cases hA : 7 * i + j < N ∧ j < 7
            · have hki : ((7 * i + j : Nat) : Int) < (N : Int) := by omega
              have hk7 : ((7 * i + j : Nat) : Int) < ((7 * i + 7 : Nat) : Int) := by omega
              have Hcl : Hid (∀ W, Below wl.heap.size wl W → W.cell? ⟨g0, (7 * i + j) * 4 + 3, none⟩ = some (.int .i64 (noa bs (7 * i + j)).fst)) := hid (fun W hW => HFS.out W hW _ hA.1)
              have c0 := Hcl.out wr (next hbi hbq)
              have HPL : Hid (prL (upQ bs i (j + 1)) = prL (upQ bs i j) ++ [(noa bs (7 * i + j)).fst, ((7 * i + j : Nat) : Int)]) := hid (by rw [upQ_next, prL_snoc2])
              have hj6 : j < 7 := hA.2
              have h8 : (2 * j + 2) * 8 ≤ 140737488355328 := by omega
              have hne : g0 ≠ wo.heap.size := by have := hbi.size; omega
              have hne' : wo.heap.size ≠ g0 := fun e => hne e.symm
              obtain ⟨kk, hkk⟩ : ∃ kk, 7 * i + j = kk := ⟨_, rfl⟩
              have HKK := hid hkk
              rw [hkk] at c0 hki hk7 HPL Hcl ⊢
              obtain ⟨s7, hs7⟩ : ∃ s7, 7 * i + 7 = s7 := ⟨_, rfl⟩
              have HS7 := hid hs7
              rw [hs7] at hk7 y2
              have hk1 : kk < N := by omega
              have hk2 : kk < s7 := by omega
              clear hA hkk hs7
              generalize (noa bs kk).fst = fs at *
              have bA : Below wr.heap.size wr (wr.alloc (.cells #[.int .i64 fs, .int .i64 (kk : Int)] 3)).drew := ((Below.refl _ _).alloc (Nat.le_refl _) _).drew
              have HP : Hid (Sl .i64 (wr.alloc (.cells #[.int .i64 fs, .int .i64 (kk : Int)] 3)).drew (some ⟨wr.heap.size, 0, none⟩) 2 2 [fs, (kk : Int)]) := hid ((sl_int2 wr wr.heap.size fs (kk : Int) rfl).below (Below.refl _ _).drew)
              have HXr := hid (HN.out.own.below bA).row
              have Hsz : Hid (wo.heap.size + 1 ≤ (wr.alloc (.cells #[.int .i64 fs, .int .i64 (kk : Int)] 3)).drew.heap.size) := hid (by have := bA.size; omega)
              have HMO : Hid (∀ w2 bo2 c2 ys, (wr.alloc (.cells #[.int .i64 fs, .int .i64 (kk : Int)] 3)).drew.grownBy w2 (Value.slice bo' (2 * j) c').ownBlock → Own .i64 3 (wo.heap.size + 1) w2 bo2 (2 * j + 2) c2 ys → NBx w2 wo.heap.size ⟨bo', 2 * j, c', ⟨prL (upQ bs i j), j, false, f7⟩⟩ ∧ NWy wo.heap.size (w2.setCell ⟨wo.heap.size, 0, none⟩ (.slice bo2 (2 * j + 2) c2)) ⟨bo2, 2 * j + 2, c2, ⟨ys, j, false, f7⟩⟩ ∧ Below wo.heap.size wo w2 ∧ Below wo.heap.size wo (w2.setCell ⟨wo.heap.size, 0, none⟩ (.slice bo2 (2 * j + 2) c2))) := hid (fun w2 bo2 c2 ys hg ho => by
                obtain ⟨k1, k2, k3, k4⟩ := HN.out.more hg ho
                exact ⟨k1, k2, hbq.trans k3, hbq.trans k4⟩)
              have HBW : Hid (∀ w2, Below wo.heap.size wo w2 → Below wl.heap.size wl w2) := hid (fun w2 h2 => next hbi h2)
              have k4 := Hcl.out _ (HBW.out _ (hbq.trans (bA.mono (by have := hbq.size; omega))))
              have p0' : (wr.alloc (.cells #[.int .i64 fs, .int .i64 (kk : Int)] 3)).drew.cell? ⟨wo.heap.size, 0, none⟩ = some (.slice bo' (2 * j) c') := (bA.cell (p := ⟨wo.heap.size, 0, none⟩) hxl).trans p0
              clear HN
              go_wp2_with fail
              refine wp_region_held_drew (S := fun w' => w'.cell? ⟨g0, kk * 4 + 3, none⟩ = some (.int .i64 fs)) (by kernel_rfl) c0 (fun hH => ?_)
              refine wpAnyH_take (i := 0) (v := ?_) (List.getElem?_toArray.trans rfl) (by kernel_rfl) (by kernel_rfl) (by kernel_rfl) (fun _ _ _ h => h) (Or.inl ⟨by rfl, ?_⟩) (by assumption) ?_
              rotate_left
              · (intro w hSw; (try dsimp only at hSw); go_simp; try (with_reducible rfl))
              simp only [Act.put, List.setIfInBounds_toArray, List.set_cons_zero, List.set_cons_succ]
              refine wpAnyH_take (i := 2) (v := ?_) (List.getElem?_toArray.trans rfl) (by kernel_rfl) (by kernel_rfl) (by kernel_rfl) (fun _ _ _ h => h) (Or.inl ⟨by rfl, ?_⟩) (by assumption) ?_
              rotate_left
              · (intro w hSw; (try dsimp only at hSw); go_simp; try (with_reducible rfl))
              simp only [Act.put, List.setIfInBounds_toArray, List.set_cons_zero, List.set_cons_succ]
              refine wpAnyH_take (i := 3) (v := ?_) (List.getElem?_toArray.trans rfl) (by kernel_rfl) (by kernel_rfl) (by kernel_rfl) (fun _ _ _ h => h) (Or.inl ⟨by rfl, ?_⟩) (by assumption) ?_
              rotate_left
              · (intro w hSw; (try dsimp only at hSw); go_simp; try (with_reducible rfl))
              simp only [Act.put, List.setIfInBounds_toArray, List.set_cons_zero, List.set_cons_succ]
              refine wpAnyH_take (i := 4) (v := ?_) (List.getElem?_toArray.trans rfl) (by kernel_rfl) (by kernel_rfl) (by kernel_rfl) (fun _ _ _ h => h) (Or.inl ⟨by rfl, ?_⟩) (by assumption) ?_
              rotate_left
              · (intro w hSw; (try dsimp only at hSw); go_simp; try (with_reducible rfl))
              simp only [Act.put, List.setIfInBounds_toArray, List.set_cons_zero, List.set_cons_succ]
              refine wpAnyH_take (i := 5) (v := ?_) (List.getElem?_toArray.trans rfl) (by kernel_rfl) (by kernel_rfl) (by kernel_rfl) (fun _ _ _ h => h) (Or.inl ⟨by rfl, ?_⟩) (by assumption) ?_
              rotate_left
              · (intro w hSw; (try dsimp only at hSw); go_simp; try (with_reducible rfl))
              simp only [Act.put, List.setIfInBounds_toArray, List.set_cons_zero, List.set_cons_succ]
              refine wpAnyH_take (i := 6) (v := ?_) (List.getElem?_toArray.trans rfl) (by kernel_rfl) (by kernel_rfl) (by kernel_rfl) (fun _ _ _ h => h) (Or.inl ⟨by rfl, ?_⟩) (by assumption) ?_
              rotate_left
              · (intro w hSw; (try dsimp only at hSw); go_simp; try (with_reducible rfl))
              simp only [Act.put, List.setIfInBounds_toArray, List.set_cons_zero, List.set_cons_succ]
              refine wpAnyH_take (i := 7) (v := ?_) (List.getElem?_toArray.trans rfl) (by kernel_rfl) (by kernel_rfl) (by kernel_rfl) (fun _ _ _ h => h) (Or.inl ⟨by rfl, ?_⟩) (by assumption) ?_
              rotate_left
              · (intro w hSw; (try dsimp only at hSw); go_simp; try (with_reducible rfl))
              simp only [Act.put, List.setIfInBounds_toArray, List.set_cons_zero, List.set_cons_succ]
              refine wpAnyH_ready (rs := [1, 8]) (by kernel_rfl) (by simp) ?_
              refine AllReadyH.cons (List.getElem?_toArray.trans rfl) (fun K1 hK1 => ?_) (AllReadyH.cons (List.getElem?_toArray.trans rfl) (fun K1 hK1 => ?_) AllReadyH.nil)
              · go_simp
                refine hK1.out _ _ (by assumption) (fun hHeld => ?_)
                clear hK1 K1
                refine wpAnyH_ready (rs := [8]) (by kernel_rfl) (by simp) ?_
                refine AllReadyH.cons (List.getElem?_toArray.trans rfl) (fun K2 hK2 => ?_) AllReadyH.nil
                go_simp
                refine hK2.out _ _ k4 (fun hHeld2 => ?_)
                clear hK2 K2
                refine wpAnyH_ready (rs := [9]) (by kernel_rfl) (by simp) ?_
                refine AllReadyH.cons (List.getElem?_toArray.trans rfl) (fun K3 hK3 => ?_) AllReadyH.nil
                refine step_append_il rfl (.tmp 50) (.tmp 57) rfl (wo.heap.size + 1) (.slice bo' (2 * j) c') (2 * j) (prL (upQ bs i j)) rfl HXr.out ⟨wr.heap.size, 0, none⟩ 2 2 [fs, (kk : Int)] rfl HP.out h8 Hsz.out ?_
                intro bo2 c2' w2 ho2 hg2
                obtain ⟨m1, m2, m3, m4⟩ := HMO.out w2 bo2 c2' _ hg2 ho2
                have t1 := Hcl.out w2 (HBW.out w2 m3)
                have t2 := Hcl.out _ (HBW.out _ m4)
                obtain ⟨r0, r1, r2, r3⟩ := m1.cell
                have r4 := m1.free 0
                have HM2 := hid m2
                have HM4 := hid m4
                clear ho2 hg2 m1 m2 m3 m4
                refine hK3.out _ _ t1 (fun hHeld3 => ?_)
                clear hK3 K3
                simp only [Act.put, List.setIfInBounds_toArray, List.set_cons_zero, List.set_cons_succ]
                refine wpAnyH_take (i := 10) (v := ?_) (List.getElem?_toArray.trans rfl) (by kernel_rfl) (by kernel_rfl) (by kernel_rfl) (fun _ _ _ h => h) (Or.inl ⟨by rfl, ?_⟩) (by assumption) ?_
                rotate_left
                · (intro w hSw; (try dsimp only at hSw); go_simp; try (with_reducible rfl))
                simp only [Act.put, List.setIfInBounds_toArray, List.set_cons_zero, List.set_cons_succ]
                refine wpAnyH_ready (rs := [11]) (by kernel_rfl) (by simp) ?_
                refine AllReadyH.cons (List.getElem?_toArray.trans rfl) (fun K4 hK4 => ?_) AllReadyH.nil
                go_simp
                refine hK4.out _ _ t2 (fun hHeld4 => ?_)
                clear hK4 K4
                refine wpAnyH_done (by kernel_rfl) ?_ _
                clear t1 t2 hHeld3 hHeld4 hH
                obtain ⟨v0, v1, v2, v3⟩ := HM2.out.bx.cell
                have v4 := HM2.out.bx.free 1
                have HCn := hid (HM2.out.count ((j : Int) + 1))
                have HBn : Hid (Below wo.heap.size wo ((w2.setCell ⟨wo.heap.size, 0, none⟩ (.slice bo2 (2 * j + 2) c2')).setCell ⟨wo.heap.size, 1, none⟩ (.int .i64 ((j : Int) + 1)))) := hid (HM4.out.setCell (Nat.le_refl _) _)
                have x6 : IntKind.i64.wrap ((j : Int) + 1) = (j : Int) + 1 := IntWalk.i64_in _ ⟨by omega, by omega⟩
                have x7 : IntKind.i64.wrap ((kk : Int) + 1) = ((7 * i + (j + 1) : Nat) : Int) := by have := HKK.out; rw [IntWalk.i64_in _ ⟨by omega, by omega⟩]; omega
                simp only at v0 v1 v2 v3 HCn
                clear r0 r1 r2 r3 r4 HM2 HM4
                generalize w2.setCell ⟨wo.heap.size, 0, none⟩ (.slice bo2 (2 * j + 2) c2') = w3 at *
                go_wp2
                go_roundw
                case rel => exact ⟨j + 1, bo2, c2', by omega, by have := HKK.out; omega, rfl, by rw [HPL.out]; exact HCn, HBn.out⟩
                case measure => (have := HKK.out; simp [intOf]; omega)
              · go_simp
                refine hK1.out _ _ k4 (fun hHeld => ?_)
                clear hK1 K1
                refine wpAnyH_ready (rs := [1]) (by kernel_rfl) (by simp) ?_
                refine AllReadyH.cons (List.getElem?_toArray.trans rfl) (fun K2 hK2 => ?_) AllReadyH.nil
                go_simp
                refine hK2.out _ _ k4 (fun hHeld2 => ?_)
                clear hK2 K2
                refine wpAnyH_ready (rs := [9]) (by kernel_rfl) (by simp) ?_
                refine AllReadyH.cons (List.getElem?_toArray.trans rfl) (fun K3 hK3 => ?_) AllReadyH.nil
                refine step_append_il rfl (.tmp 50) (.tmp 57) rfl (wo.heap.size + 1) (.slice bo' (2 * j) c') (2 * j) (prL (upQ bs i j)) rfl HXr.out ⟨wr.heap.size, 0, none⟩ 2 2 [fs, (kk : Int)] rfl HP.out h8 Hsz.out ?_
                intro bo2 c2' w2 ho2 hg2
                obtain ⟨m1, m2, m3, m4⟩ := HMO.out w2 bo2 c2' _ hg2 ho2
                have t1 := Hcl.out w2 (HBW.out w2 m3)
                have t2 := Hcl.out _ (HBW.out _ m4)
                obtain ⟨r0, r1, r2, r3⟩ := m1.cell
                have r4 := m1.free 0
                have HM2 := hid m2
                have HM4 := hid m4
                clear ho2 hg2 m1 m2 m3 m4
                refine hK3.out _ _ t1 (fun hHeld3 => ?_)
                clear hK3 K3
                simp only [Act.put, List.setIfInBounds_toArray, List.set_cons_zero, List.set_cons_succ]
                refine wpAnyH_take (i := 10) (v := ?_) (List.getElem?_toArray.trans rfl) (by kernel_rfl) (by kernel_rfl) (by kernel_rfl) (fun _ _ _ h => h) (Or.inl ⟨by rfl, ?_⟩) (by assumption) ?_
                rotate_left
                · (intro w hSw; (try dsimp only at hSw); go_simp; try (with_reducible rfl))
                simp only [Act.put, List.setIfInBounds_toArray, List.set_cons_zero, List.set_cons_succ]
                refine wpAnyH_ready (rs := [11]) (by kernel_rfl) (by simp) ?_
                refine AllReadyH.cons (List.getElem?_toArray.trans rfl) (fun K4 hK4 => ?_) AllReadyH.nil
                go_simp
                refine hK4.out _ _ t2 (fun hHeld4 => ?_)
                clear hK4 K4
                refine wpAnyH_done (by kernel_rfl) ?_ _
                clear t1 t2 hHeld3 hHeld4 hH
                obtain ⟨v0, v1, v2, v3⟩ := HM2.out.bx.cell
                have v4 := HM2.out.bx.free 1
                have HCn := hid (HM2.out.count ((j : Int) + 1))
                have HBn : Hid (Below wo.heap.size wo ((w2.setCell ⟨wo.heap.size, 0, none⟩ (.slice bo2 (2 * j + 2) c2')).setCell ⟨wo.heap.size, 1, none⟩ (.int .i64 ((j : Int) + 1)))) := hid (HM4.out.setCell (Nat.le_refl _) _)
                have x6 : IntKind.i64.wrap ((j : Int) + 1) = (j : Int) + 1 := IntWalk.i64_in _ ⟨by omega, by omega⟩
                have x7 : IntKind.i64.wrap ((kk : Int) + 1) = ((7 * i + (j + 1) : Nat) : Int) := by have := HKK.out; rw [IntWalk.i64_in _ ⟨by omega, by omega⟩]; omega
                simp only at v0 v1 v2 v3 HCn
                clear r0 r1 r2 r3 r4 HM2 HM4
                generalize w2.setCell ⟨wo.heap.size, 0, none⟩ (.slice bo2 (2 * j + 2) c2') = w3 at *
                go_wp2
                go_roundw
                case rel => exact ⟨j + 1, bo2, c2', by omega, by have := HKK.out; omega, rfl, by rw [HPL.out]; exact HCn, HBn.out⟩
                case measure => (have := HKK.out; simp [intOf]; omega)
            · have hjm : min 7 (N - 7 * i) = j := by omega
              have HAP : Hid (∀ (W : World) (d : Nde), Below wo.heap.size wo W → NWy wo.heap.size W d → OwN wl.heap.size W bo i c ds ∧ Own .i64 3 wl.heap.size W d.bo d.m d.c d.x.ws ∧ Below wl.heap.size wl W) := hid (fun W d hW hd => ⟨HO.out.below hW, hd.own.mono (by have := hbi.size; omega), next hbi hW⟩)
              have HMM : Hid (∀ d : Nde, d.x = upX bs i → (ds ++ [d]).map (·.x) = (List.range (i + 1)).map (upX bs)) := hid (fun d hd => by rw [List.map_append, HM.out, List.range_succ, List.map_append, List.map_singleton, hd]; rfl)
              have hfx : (⟨prL (upQ bs i j), (j : Int), false, f7⟩ : Nod) = upX bs i := by
                unfold upX
                rw [HBL.out, hjm, HF7.out]
              have h48 : (i + 1) * 48 ≤ 140737488355328 := by omega
              have HDS : Hid (ds.length = i) := hid HO.out.len
              have x8 : IntKind.i64.wrap ((i : Int) + 1) = ((i + 1 : Nat) : Int) := by rw [y1]; omega
              have hbZ : Below wr.heap.size wr (wr.alloc (.cells #[.slice bo' (2 * j) c', .int .i64 (j : Int), .bool false, .int .i64 f7] 64)) := (Below.refl _ _).alloc (Nat.le_refl _) _
              obtain ⟨a1, a2, a3⟩ := HAP.out _ _ hbq HN.out
              have A1 := a1.below hbZ
              have A2 := hid (a2.below hbZ)
              have A3 := next a3 hbZ
              have A4 := A3.size
              have HCE : Hid (∀ k u, (Nde.cells (⟨bo', 2 * j, c', ⟨prL (upQ bs i j), j, false, f7⟩⟩ : Nde))[k]? = some u → (wr.alloc (.cells #[.slice bo' (2 * j) c', .int .i64 (j : Int), .bool false, .int .i64 f7] 64)).cell? ⟨wr.heap.size, k, none⟩ = some u) := hid (fun k u hu => by
                rw [cell_of_row _ wr.heap.size k _ 64 (0, 0) (heap_alloc_new wr _)]
                simpa [Nde.cells] using hu)
              have HRW := hid A1.row
              have HOX := hid A1.own
              have HGB : Hid (∀ w5, (wr.alloc (.cells #[.slice bo' (2 * j) c', .int .i64 (j : Int), .bool false, .int .i64 f7] 64)).grownBy w5 (Value.slice bo i c).ownBlock → Below wl.heap.size wl w5) := hid (fun w5 hg => A3.grown hg A4 (fun k hk => (A1.row.lt k hk).1))
              have HFX := hid (HMM.out (⟨bo', 2 * j, c', ⟨prL (upQ bs i j), j, false, f7⟩⟩ : Nde) hfx)
              clear a1 a2 a3 A1 HMM HAP HM HN hfx hjm
              by_cases hkn : 7 * i + j < N
              · have hk0 : ((7 * i + j : Nat) : Int) < (N : Int) := by omega
                have hk1 : ¬ (((7 * i + j : Nat) : Int) < ((7 * i + 7 : Nat) : Int)) := by omega
                have hk1' : ¬ (7 * i + j < 7 * i + 7) := by omega
                go_wp2_with (at_builtin; refine append_ns rfl (.tmp 64) (.tmp 66) rfl wl.heap.size _ i ds rfl HDS.out HRW.out HOX.out wr.heap.size (⟨bo', 2 * j, c', ⟨prL (upQ bs i j), j, false, f7⟩⟩ : Nde) rfl HCE.out A2.out h48 A4 ?_; intro bo3 c3 w5 ho5 hg5; have HO5 := hid ho5; have HB5 := hid (HGB.out w5 hg5); clear ho5 hg5)
                go_roundw
                case rel => exact ⟨i + 1, bo3, c3, _, by omega, rfl, rfl, HO5, HFX, HB5.out⟩
                case measure => simp [intOf]; omega
              · have hk0 : ¬ (((7 * i + j : Nat) : Int) < (N : Int)) := by omega
                go_wp2_with (at_builtin; refine append_ns rfl (.tmp 64) (.tmp 66) rfl wl.heap.size _ i ds rfl HDS.out HRW.out HOX.out wr.heap.size (⟨bo', 2 * j, c', ⟨prL (upQ bs i j), j, false, f7⟩⟩ : Nde) rfl HCE.out A2.out h48 A4 ?_; intro bo3 c3 w5 ho5 hg5; have HO5 := hid ho5; have HB5 := hid (HGB.out w5 hg5); clear ho5 hg5)
                go_roundw
                case rel => exact ⟨i + 1, bo3, c3, _, by omega, rfl, rfl, HO5, HFX, HB5.out⟩
                case measure => simp [intOf]; omega
        · have hie : abv N = i := by omega
          subst hie
          have hbw := next hb hbi
          have hD : OwN w.heap.size wo bo (abv N) c ds := HO.out.mono hb.size
          have HD := hid hD
          have HLB := hid (HL.out.below hbi)
          have hBw := hbw.size
          have HGR : Hid (∀ w5, (wo.alloc (.cells #[.slice bo (abv N) c] 62)).grownBy w5 (some wo.heap.size) → Below w.heap.size w w5) := hid (fun w5 hg => (hbw.alloc hbw.size _).grown hg (by simp; omega) (fun k hk => by cases hk; exact hbw.size))
          have HSN : Hid (∀ q, q ≤ t + 1 → ∃ d, ((⟨bo, abv N, c, ds⟩ : Lvl) :: ls)[q]? = some d ∧ d.ds.map (·.x) = lvN l (t + 1 - q)) := hid (fun q hq => by
            cases q with
            | zero => exact ⟨_, rfl, by rw [Nat.sub_zero, HNX.out]; exact HM.out⟩
            | succ q =>
              obtain ⟨d, h1, h2⟩ := HS.out q (by omega)
              exact ⟨d, by simpa using h1, by rw [h2]; congr 1; omega⟩)
          have hii : ¬ (((abv N : Nat) : Int) < (abv N : Nat)) := by omega
          clear hD HO HM HL HS hN0 hx0 hd0 he0 HFS HNX HAB HBL
          go_wp2_with (first
            | (go_at_call 45; with_reducible refine (cA N (by omega) _).mono ?_; rintro e w' ⟨rfl, rfl⟩)
            | (at_builtin; refine append_ls rfl (.tmp 69) (.tmp 70) rfl w.heap.size wo.heap.size ⟨bo, abv N, c, ds⟩ rfl rfl HD.out (some ⟨g, 0, none⟩) (t + 1) ca ls rfl HLB.out (by omega) (by omega) hBw ?_; intro bo3 c3 w5 ho5 hg5; have HO5 := hid ho5; have HB5 := hid (HGR.out w5 hg5); clear ho5 hg5))
          go_roundw
          case rel => exact ⟨t + 1, bo3, c3, _, by omega, rfl, HO5, HSN, HB5.out⟩
          case measure => simp [slLen]; omega
    · have hth := hgt_top (n := n) (by omega) ht (by omega)
      have hNi : ¬ (1 < (N : Int)) := by omega
      have HHT := hid hth
      clear hN0 hx0 hd0 he0 hth
      go_wp2
      go_ret
      have e := HHT.out
      subst e
      exact ⟨_, ca, rfl, ls, HL.out, HS.out, hb⟩
end Go.Proofs.Ythkloknongkpdaa
/- The document's nodes level by level are the tree's, in plain words. -/
namespace Go.Proofs.Ythkloknongkpdaa
set_option maxRecDepth 100000
set_option linter.unusedVariables false
set_option linter.unusedSimpArgs false

/-- A node's words with the numbers counted from the tree's first node. -/
def adN (b : Int) (leaf : Bool) (ws : List Int) (t : Nat) : List Int := (List.range t).map (fun k => if leaf = false ∧ k % 2 = 1 then ws.getD k 0 + b else ws.getD k 0)
theorem adN_next (b : Int) (leaf : Bool) (ws : List Int) (t : Nat) : adN b leaf ws (t + 1) = adN b leaf ws t ++ [if leaf = false ∧ t % 2 = 1 then ws.getD t 0 + b else ws.getD t 0] := by simp [adN, List.range_succ]
theorem adN_len (b : Int) (leaf : Bool) (ws : List Int) (t : Nat) : (adN b leaf ws t).length = t := by simp [adN]
theorem adN_leaf (b : Int) (ws : List Int) : adN b true ws ws.length = ws := by
  apply List.ext_getElem?
  intro i
  by_cases h : i < ws.length
  · simp [adN, h, List.getD]
  · simp [adN, h]
theorem adN_pairs (b : Int) (ps : List (Int × Int)) : adN b false (prL ps) (prL ps).length = prL (ps.map (fun p => (p.1, p.2 + b))) := by
  apply List.ext_getElem?
  intro i
  have hl := prL_len ps
  have hl2 := prL_len (ps.map (fun p => (p.1, p.2 + b)))
  rw [List.length_map] at hl2
  by_cases h : i < (prL ps).length
  · have hk : i / 2 < ps.length := by omega
    obtain ⟨a1, a2⟩ := prL_at ps (i / 2) hk
    obtain ⟨b1, b2⟩ := prL_at (ps.map (fun p => (p.1, p.2 + b))) (i / 2) (by rw [List.length_map]; exact hk)
    have e : ((ps.map (fun p => (p.1, p.2 + b))).getD (i / 2) (0, 0)) = ((ps.getD (i / 2) (0, 0)).1, (ps.getD (i / 2) (0, 0)).2 + b) := by
      simp [List.getD, hk]
    rw [e] at b1 b2
    have h2 : i < (prL (ps.map (fun p => (p.1, p.2 + b)))).length := by omega
    have g1 : (adN b false (prL ps) (prL ps).length)[i]? = some (if i % 2 = 1 then (prL ps).getD i 0 + b else (prL ps).getD i 0) := by
      simp only [adN, List.getElem?_map, List.getElem?_range h, Option.map_some, true_and]
    have g2 : (prL (ps.map (fun p => (p.1, p.2 + b))))[i]? = some ((prL (ps.map (fun p => (p.1, p.2 + b)))).getD i 0) := by
      rw [List.getElem?_eq_getElem h2, List.getD, List.getElem?_eq_getElem h2]; rfl
    rw [g1, g2]
    congr 1
    by_cases c : i % 2 = 1
    · rw [if_pos c, show i = 2 * (i / 2) + 1 by omega, a2, b2]
    · rw [if_neg c, show i = 2 * (i / 2) by omega, a1, b1]
  · rw [List.getElem?_eq_none (by rw [adN_len]; omega), List.getElem?_eq_none (by omega)]
/-- A node's sixteen words as they are laid. -/
def wNd (b : Int) (x : Nod) : List Int := p16 ((2 * x.cnt + (if x.leaf then 1 else 0)) :: adN b x.leaf x.ws x.ws.length)
theorem noa_map {N : Nat} {f : Nat → Nod} {i : Nat} (h : i < N) : noa ((List.range N).map f) i = f i := by simp [noa, List.getD, h]
theorem lvC_pos (n j : Nat) : 1 ≤ lvC n j := by
  cases j with
  | zero => exact abv_pos _
  | succ j => exact abv_pos _
theorem lv_fst {l : List Blk} (hn : 1 ≤ l.length) : ∀ (j i : Nat), i < lvC l.length j → (noa (lvN l j) i).fst = (ba l (7 ^ (j + 1) * i)).pos := by
  intro j
  induction j with
  | zero =>
    intro i hi
    have h7 := lv_in hn 0 i hi
    simp only [lvC] at hi
    simp only [lvN]
    rw [noa_map hi]
    simp only [lfX]
    have hp : (psN l 0 i).length ≠ 0 := by
      simp only [psN, List.length_map, List.length_take, List.length_drop]
      simp only [Nat.zero_add, Nat.pow_one] at h7
      omega
    rw [if_neg hp]
  | succ j ih =>
    intro i hi
    simp only [lvC] at hi
    simp only [lvN]
    rw [lvN_len] 
    rw [noa_map hi]
    simp only [upX]
    rw [ih (7 * i) (by have := lvC_pos l.length j; unfold abv at hi; omega)]
    congr 2
    rw [Nat.pow_succ 7 (j + 1), Nat.mul_assoc]
theorem node_words {l : List Blk} (hn : l.length ≤ 343) {j i : Nat} (hi : i < lvC l.length j) (b : Int) (hb : 1 ≤ j → b = (lvB l.length j : Nat)) (hj : j ≤ hgt l.length) : wNd b (noa (lvN l j) i) = ndW l j i := by
  cases j with
  | zero =>
    simp only [lvC] at hi
    simp only [lvN]
    rw [noa_map hi]
    unfold wNd ndW nodL
    simp only [lfX]
    rw [adN_leaf]
    rfl
  | succ j =>
    have hi' := hi
    simp only [lvC] at hi
    simp only [lvN]
    rw [lvN_len]
    rw [noa_map hi]
    unfold wNd ndW nodL
    have hb' := hb (by omega)
    have h1 : 1 ≤ l.length := by
      refine Decidable.byContradiction fun c => ?_
      have e : l.length = 0 := by omega
      rw [e] at hj
      have : hgt 0 = 0 := by decide
      omega
    have hps : (upQ (lvN l j) i (min 7 ((lvN l j).length - 7 * i))).map (fun p => (p.1, p.2 + b)) = psN l (j + 1) i := by
      simp only [upQ, psN, List.map_map, lvN_len]
      refine List.map_congr_left fun k hk => ?_
      rw [List.mem_range] at hk
      simp only [Function.comp_apply]
      rw [lv_fst h1 j (7 * i + k) (by omega), hb']
      congr 1
      omega
    simp only [upX]
    rw [adN_pairs, hps]
    have hlen : (psN l (j + 1) i).length = min 7 ((lvN l j).length - 7 * i) := by rw [← hps]; simp [upQ]
    rw [hlen]
    simp
/-- How many nodes the first levels have. -/
def bsS (n : Nat) : Nat → Nat
  | 0 => 0
  | q + 1 => bsS n q + lvC n (hgt n - q)
theorem bsS_lv {n q : Nat} (hn : n ≤ 343) (hq : q ≤ hgt n) (hj : 1 ≤ hgt n - q) : bsS n (q + 1) = lvB n (hgt n - q) := by
  have h2 := hgt_le n
  have ht := top_one hn
  rcases (show hgt n = 1 ∧ q = 0 ∨ hgt n = 2 ∧ q = 0 ∨ hgt n = 2 ∧ q = 1 by omega) with ⟨e, rfl⟩ | ⟨e, rfl⟩ | ⟨e, rfl⟩
  · simp only [bsS, lvB, Nat.sub_zero, Nat.zero_add]
    rw [ht, if_neg (by omega)]
  · simp only [bsS, lvB, Nat.sub_zero, Nat.zero_add]
    rw [ht, if_pos e, if_pos e]
  · simp only [bsS, lvB, Nat.sub_zero, Nat.zero_add]
    rw [ht, if_pos e, if_neg (by omega)]
    rw [e]
/-- The nodes of the first levels. -/
def trQ (l : List Blk) (q : Nat) : List (List Int) := (List.range q).flatMap (fun r => lvW l (hgt l.length - r))
theorem trQ_next (l : List Blk) (q : Nat) : trQ l (q + 1) = trQ l q ++ lvW l (hgt l.length - q) := by simp [trQ, List.range_succ]
theorem trQ_all (l : List Blk) : trQ l (hgt l.length + 1) = trL l := by
  have h2 := hgt_le l.length
  unfold trL
  rcases (show hgt l.length = 0 ∨ hgt l.length = 1 ∨ hgt l.length = 2 by omega) with e | e | e
  · rw [if_pos e, e, trQ_next, e]; rfl
  · rw [if_neg (by omega), if_pos e, e, trQ_next, trQ_next, e]; rfl
  · rw [if_neg (by omega), if_neg (by omega), e, trQ_next, trQ_next, trQ_next, e]
    simp [trQ]
theorem trQ_len (l : List Blk) : ∀ q, (trQ l q).length = bsS l.length q := by
  intro q
  induction q with
  | zero => rfl
  | succ q ih => rw [trQ_next, List.length_append, ih, lvW_len]; rfl
theorem ofL_append (a b : List Int) : ofL (a ++ b) = ofL a ++ ofL b := by simp [ofL]
end Go.Proofs.Ythkloknongkpdaa
