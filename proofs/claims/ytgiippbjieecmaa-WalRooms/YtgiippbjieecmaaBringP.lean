/- wal's bring by its contract. -/
import Derived.Test.YtgiippbjieecmaaStepsP
namespace Go.Proofs.Ytgiippbjieecmaa
set_option maxRecDepth 100000
open Go.RowKit
set_option linter.unusedVariables false

theorem alloc_three (w : World) (x y z : Obj) : (((w.alloc x).alloc y).alloc z).heap[w.heap.size]? = some x ∧ (((w.alloc x).alloc y).alloc z).heap[w.heap.size + 1]? = some y ∧ (((w.alloc x).alloc y).alloc z).heap[w.heap.size + 1 + 1]? = some z := by
  show (((w.heap.push x).push y).push z)[w.heap.size]? = some x ∧ (((w.heap.push x).push y).push z)[w.heap.size + 1]? = some y ∧ (((w.heap.push x).push y).push z)[w.heap.size + 1 + 1]? = some z
  refine ⟨?_, ?_, ?_⟩
  · rw [Array.getElem?_push, if_neg (by simp; omega), Array.getElem?_push, if_neg (by simp), Array.getElem?_push, if_pos rfl]
  · rw [Array.getElem?_push, if_neg (by simp), Array.getElem?_push, if_pos (by simp)]
  · rw [Array.getElem?_push, if_pos (by simp)]
theorem below_drew {B : Nat} {a w : World} (h : Below B a w) : Below B a w.drew := h.trans ⟨rfl, rfl, rfl, Nat.le_refl _, fun _ _ => rfl⟩

/-- A row of steps, and m function values more, laid in the block W.heap.size. -/
structure More (w W : World) (F K : Nat → Prop) (s p : Nat) (ro : Option Addr) (n rc m : Nat) (fs : List Value) (xs : List Stp) (news : Array Value) : Prop where
  at_ : StepsAt w F K s p ro n rc fs xs
  bel : Below w.heap.size w W
  sz : news.size = m
  pos : 0 < m
  one : ∀ u ∈ news.toList, u.oneCell' = true
  few : n + m ≤ 200000
/-- What an append to it leaves. -/
structure Put (w W w1 : World) (s : Nat) (ro : Option Addr) (n rc m g cap : Nat) (fs : List Value) (news : Array Value) : Prop where
  own : w1.ownsRow (s + 1) 85 1 (.slice (some ⟨g, 0, none⟩) (n + m) cap) (n + m) (fs ++ news.toList)
  grow : (W.alloc (.cells news 85)).drew.grownBy w1 (Value.slice ro n rc).ownBlock
  at_ : (Value.slice ro n rc).ownBlock = some g ∨ g = (W.alloc (.cells news 85)).drew.heap.size
theorem step_more {ops : Array Oper} {o : Oper} {a : Act} {Q0 : Act → World → Prop} {Q : Exit → Act → World → Prop} {E : Prop} {w W : World} {F K : Nat → Prop} {s p : Nat} {ro : Option Addr} {n rc m : Nat} {fs : List Value} {xs : List Stp} {news : Array Value} (hgd : o.guard = none) (sx x : Operand)
    (ho : o.op = .call { callee := .builtin .append, args := #[sx, x], argTypes := #[80, 80] }) (C : Hid (More w W F K s p ro n rc m fs xs news)) (hs : a.eval sx = .slice ro n rc) (hx : a.eval x = .slice (some ⟨W.heap.size, 0, none⟩) m m)
    (h : ∀ g cap w1, Hid (Put w W w1 s ro n rc m g cap fs news) → w1.frozen? ⟨s, 1, none⟩ = false → w1.cell? ⟨s, 1, none⟩ = some (.slice ro n rc) → Q0 (a.put o.dst (.slice (some ⟨g, 0, none⟩) (n + m) cap)) w1) :
    if Region.wanted o (yielded ops a.tmps) = true then Oper.wp Try.prog o a (W.alloc (.cells news 85)).drew Q0 Q else E := by
  obtain ⟨i0, hi0, hz0, hz1, hz2⟩ := info_parts Try.info85
  have hM := C.out
  have hb4 : Below W.heap.size W (W.alloc (.cells news 85)) := (Below.refl _ _).alloc (Nat.le_refl _) _
  have hbA : Below w.heap.size w (W.alloc (.cells news 85)).drew := below_drew (next hM.bel hb4)
  have hrow := hM.at_.row
  have hsl := hM.at_.lt
  have hrA : (W.alloc (.cells news 85)).drew.ownsRow (s + 1) 85 1 (.slice ro n rc) n fs := by
    refine ⟨hrow.1, ?_⟩
    rcases hrow.2 with hn' | ⟨g, cap', cur, hv, hg, hh, r⟩
    · exact Or.inl hn'
    · refine Or.inr ⟨g, cap', cur, hv, hg, ?_, r⟩
      rw [hbA.block g (Array.getElem?_eq_some_iff.1 hh).1]
      exact hh
  have hpos := hM.pos
  have hfew := hM.few
  have hne1 : some s ≠ (Value.slice ro n rc).ownBlock := fun e => by
    cases ro with
    | none => simp [Value.ownBlock] at e
    | some r =>
      simp only [Value.ownBlock, Option.some.injEq] at e
      have := (hM.at_.rb rfl).1
      omega
  have f1 : w.frozen? ⟨s, 1, none⟩ = false := by
    have := hM.at_.obj
    simp [World.frozen?, this, stepsObj]
  have c1 : w.cell? ⟨s, 1, none⟩ = some (.slice ro n rc) := by
    have := hM.at_.obj
    simp [World.cell?, this, stepsObj]
  have f4 : (W.alloc (.cells news 85)).drew.frozen? ⟨s, 1, none⟩ = false := (World.frozen?_of_block (a := ⟨s, 1, none⟩) (hbA.block s hsl)).trans f1
  have lt1 : s < (W.alloc (.cells news 85)).drew.heap.size := Nat.lt_of_lt_of_le hsl hbA.size
  refine step_append_lies _ hgd sx x 80 ho (s + 1) 85 i0 _ 1 8 Try.underlying80 hi0 hz0 hz1 hz2 rfl (by omega) (.slice ro n rc) n fs hs hrA ⟨W.heap.size, 0, none⟩ m m news.toList hx (by simp [hM.sz]) (World.news_of_block (cs := news) (t := 85) (fr := (0, 0)) (heap_alloc_new W _)) hM.one (by omega) (by unfold maxLen; omega) (by omega) lt1 _ rfl ?_
  intro g cap w1 hown1 hgrow hat hlt
  exact h g cap w1 ⟨hown1, hgrow, hat⟩ ((hgrow.frozen_far ⟨s, 1, none⟩ lt1 hne1).trans f4) ((hgrow.cell_far ⟨s, 1, none⟩ lt1 hne1).trans ((World.cell?_of_block (a := ⟨s, 1, none⟩) (hbA.block s hsl)).trans c1))
/-- A cell of a captured variable, behind the append. -/
theorem Put.cell {w W w1 : World} {F K : Nat → Prop} {s p : Nat} {ro : Option Addr} {n rc m g cap : Nat} {fs : List Value} {xs : List Stp} {news : Array Value} (h : Put w W w1 s ro n rc m g cap fs news) (C : More w W F K s p ro n rc m fs xs news) {j : Nat} (hj : w.heap.size ≤ j) (hl : j < W.heap.size) (i : Nat) : w1.cell? ⟨j, i, none⟩ = W.cell? ⟨j, i, none⟩ := by
  have hb4 : Below W.heap.size W (W.alloc (.cells news 85)).drew := below_drew ((Below.refl _ _).alloc (Nat.le_refl _) _)
  rw [h.grow.cell_far ⟨j, i, none⟩ (Nat.lt_of_lt_of_le hl hb4.size) (fun e => by
    cases ro with
    | none => simp [Value.ownBlock] at e
    | some r =>
      simp only [Value.ownBlock, Option.some.injEq] at e
      have := (C.at_.rb rfl).2
      omega)]
  exact hb4.cell (p := ⟨j, i, none⟩) hl

def fnA (N : Nat) : Value := .func (.func 84) #[] #[.pointer (some ⟨N, 0, none⟩), .pointer (some ⟨N + 1 + 1, 0, none⟩), .pointer (some ⟨N + 1, 0, none⟩)]
def fnB (N : Nat) : Value := .func (.func 86) #[] #[.pointer (some ⟨N, 0, none⟩), .pointer (some ⟨N + 1 + 1, 0, none⟩), .pointer (some ⟨N + 1, 0, none⟩)]
theorem bring_end {w W3 w1 : World} {F K : Nat → Prop} {s p : Nat} {ro : Option Addr} {n rc g cap line : Nat} {fs : List Value} {xs : List Stp} {ba : Option Addr} {bl bc : Nat} {ys : List Int}
    (hC : More w W3 F K s p ro n rc 2 fs xs #[fnA w.heap.size, fnB w.heap.size]) (hP : Put w W3 w1 s ro n rc 2 g cap fs #[fnA w.heap.size, fnB w.heap.size])
    (hA : Sl .u8 w ba bl bc ys ∧ Bytes ys ∧ Dat w F s ro bl ba ∧ W3.heap.size = w.heap.size + 1 + 1 + 1 ∧ W3.heap[w.heap.size]? = some (oneObj (.pointer (some ⟨s, 0, none⟩)) 79) ∧ W3.heap[w.heap.size + 1]? = some (oneObj (.slice ba bl bc) 27) ∧ W3.heap[w.heap.size + 1 + 1]? = some (oneObj (.int .i64 ((line : Int) * 64)) 3) ∧ Below w.heap.size w W3)
    (hL : line ≤ 4096 ∧ bc ≤ 9223372036854775807 ∧ s < w.heap.size) :
    Ending.returned (Value.tuple #[]) = Ending.returned (.tuple #[]) ∧ ∃ K' ro' rc' fs', StepsAt (w1.setCell ⟨s, 1, none⟩ (.slice (some ⟨g, 0, none⟩) (n + 2) cap)) F K' s p ro' (n + 2) rc' fs' (xs ++ [.st (line * 64) ys, .fl (line * 64) bl]) ∧ Grew w s ro (w1.setCell ⟨s, 1, none⟩ (.slice (some ⟨g, 0, none⟩) (n + 2) cap)) ro' := by
  obtain ⟨hs, hby, hd, hsz, o0, o1, o2, hb3⟩ := hA
  obtain ⟨hl, hc9, hsl⟩ := hL
  have hb4 : Below W3.heap.size W3 (W3.alloc (.cells #[fnA w.heap.size, fnB w.heap.size] 85)).drew := below_drew ((Below.refl _ _).alloc (Nat.le_refl _) _)
  have hbA : Below w.heap.size w (W3.alloc (.cells #[fnA w.heap.size, fnB w.heap.size] 85)).drew := next hb3 hb4
  have h := hC.at_
  have rlt : ∀ r, ro = some r → r.block < w.heap.size := fun r hr => (h.rb hr).2
  have flt : ∀ j, F j → j < w.heap.size := fun j hj => Nat.lt_trans (h.fb j hj) hsl
  have szA := hb4.size
  have key : Caught (W3.alloc (.cells #[fnA w.heap.size, fnB w.heap.size] 85)).drew (fun j => K j ∨ (w.heap.size ≤ j ∧ j ≤ w.heap.size + 1 + 1) ∨ (0 < bl ∧ ∃ c, ba = some c ∧ j = c.block)) s w.heap.size (w.heap.size + 1 + 1) (w.heap.size + 1) (line * 64) ba bl bc ys := by
    refine ⟨(hb4.block _ (by omega)).trans o0, (hb4.block _ (by omega)).trans ?_, (hb4.block _ (by omega)).trans o1, Or.inr (Or.inl (by omega)), Or.inr (Or.inl (by omega)), Or.inr (Or.inl (by omega)), hs.below hbA, hby, fun hn c hc => Or.inr (Or.inr ⟨hn, c, hc, rfl⟩), by omega, hc9⟩
    rw [o2, show ((line * 64 : Nat) : Int) = (line : Int) * 64 by omega]
  obtain ⟨q1, q2⟩ := h.grown (m := 2) (ys := [.st (line * 64) ys, .fl (line * 64) bl]) (news := [fnA w.heap.size, fnB w.heap.size]) hbA hP.own hP.grow hP.at_ (K' := fun j => K j ∨ (w.heap.size ≤ j ∧ j ≤ w.heap.size + 1 + 1) ∨ (0 < bl ∧ ∃ c, ba = some c ∧ j = c.block))
    (fun j hj => by
      rcases hj with h1 | h1 | ⟨h1, c, h2, rfl⟩
      · exact Or.inl h1
      · refine Or.inr ⟨by omega, by omega, fun hf => by have := flt j hf; omega, fun r hr => by have := rlt r hr; omega⟩
      · obtain ⟨a1, a2, a3, a4⟩ := hd h1 c h2
        exact Or.inr ⟨Nat.lt_of_lt_of_le a1 hbA.size, a2, a3, a4⟩)
    (fun j hj => Or.inl hj) rfl rfl (by simp [fnA, fnB, Value.oneCell'])
    (fun i x v e1 e2 => by
      match i, e1, e2 with
      | 0, e1, e2 =>
        simp only [List.getElem?_cons_zero, Option.some.injEq] at e1 e2
        subst e1 e2
        exact ⟨_, _, _, _, _, _, rfl, key⟩
      | 1, e1, e2 =>
        simp only [List.getElem?_cons_succ, List.getElem?_cons_zero, Option.some.injEq] at e1 e2
        subst e1 e2
        exact ⟨_, _, _, _, _, _, rfl, key⟩)
  exact ⟨rfl, _, _, _, _, q1, q2⟩

set_option maxHeartbeats 3200000 in
theorem bring_any {w : World} {F K : Nat → Prop} {s p : Nat} {ro : Option Addr} {n rc : Nat} {fs : List Value} {xs : List Stp} (h : StepsAt w F K s p ro n rc fs xs) (line : Nat) (hl : line ≤ 4096) (ba : Option Addr) (bl bc : Nat) (ys : List Int)
    (hs : Sl .u8 w ba bl bc ys) (hby : Bytes ys) (hc9 : bc ≤ 9223372036854775807) (hd : Dat w F s ro bl ba) (hn : n ≤ 100000) :
    Calls Try.prog 72 #[.pointer (some ⟨s, 0, none⟩), .int .i64 (line : Int), .slice ba bl bc] w fun e w' => e = .returned (.tuple #[]) ∧ ∃ K' ro' rc' fs', StepsAt w' F K' s p ro' (n + 2) rc' fs' (xs ++ [.st (line * 64) ys, .fl (line * 64) bl]) ∧ Grew w s ro w' ro' := by
  have hsl := h.lt
  have c1 : w.cell? ⟨s, 1, none⟩ = some (.slice ro n rc) := by
    have := h.obj
    simp [World.cell?, this, stepsObj]
  obtain ⟨W3, hW3⟩ : ∃ W3, W3 = ((w.alloc (.cells #[.pointer (some ⟨s, 0, none⟩)] 79)).alloc (.cells #[.slice ba bl bc] 27)).alloc (.cells #[.int .i64 ((line : Int) * 64)] 3) := ⟨_, rfl⟩
  have hsz3 : W3.heap.size = w.heap.size + 1 + 1 + 1 := by rw [hW3]; simp
  obtain ⟨o0, o1, o2⟩ := alloc_three w (oneObj (.pointer (some ⟨s, 0, none⟩)) 79) (oneObj (.slice ba bl bc) 27) (oneObj (.int .i64 ((line : Int) * 64)) 3)
  rw [show ((w.alloc (oneObj (.pointer (some ⟨s, 0, none⟩)) 79)).alloc (oneObj (.slice ba bl bc) 27)).alloc (oneObj (.int .i64 ((line : Int) * 64)) 3) = W3 from hW3.symm] at o0 o1 o2
  have hb3 : Below w.heap.size w W3 := by
    have b1 := (Below.refl w.heap.size w).alloc (Nat.le_refl _) (.cells #[.pointer (some ⟨s, 0, none⟩)] 79)
    have b2 := b1.alloc b1.size (.cells #[.slice ba bl bc] 27)
    rw [hW3]
    exact b2.alloc b2.size _
  have k3 : W3.cell? ⟨w.heap.size, 0, none⟩ = some (.pointer (some ⟨s, 0, none⟩)) := by simp [World.cell?, o0, oneObj]
  have d1 : W3.cell? ⟨s, 1, none⟩ = some (.slice ro n rc) := (hb3.cell (p := ⟨s, 1, none⟩) hsl).trans c1
  have hb4 : ∀ x, Below W3.heap.size W3 (W3.alloc x) := fun x => (Below.refl _ _).alloc (Nat.le_refl _) _
  have hC : More w W3 F K s p ro n rc 2 fs xs #[Value.func (.func 84) #[] #[.pointer (some ⟨w.heap.size, 0, none⟩), .pointer (some ⟨w.heap.size + 1 + 1, 0, none⟩), .pointer (some ⟨w.heap.size + 1, 0, none⟩)], Value.func (.func 86) #[] #[.pointer (some ⟨w.heap.size, 0, none⟩), .pointer (some ⟨w.heap.size + 1 + 1, 0, none⟩), .pointer (some ⟨w.heap.size + 1, 0, none⟩)]] :=
    ⟨h, hb3, rfl, by omega, by simp [Value.oneCell'], by omega⟩
  have HC := hid hC
  have lt0 : Hid (w.heap.size < W3.heap.size) := by rw [hsz3]; exact (by omega : w.heap.size < w.heap.size + 1 + 1 + 1)
  have k4 : ∀ x, (W3.alloc x).cell? ⟨w.heap.size, 0, none⟩ = some (.pointer (some ⟨s, 0, none⟩)) := fun x => ((hb4 x).cell (p := ⟨w.heap.size, 0, none⟩) lt0.out).trans k3
  have d4 : ∀ x, (W3.alloc x).cell? ⟨s, 1, none⟩ = some (.slice ro n rc) := fun x => ((hb4 x).cell (p := ⟨s, 1, none⟩) (Nat.lt_of_lt_of_le hsl hb3.size)).trans d1
  have hnes : (⟨s, 1, none⟩ : Addr).block ≠ (⟨w.heap.size, 0, none⟩ : Addr).block := by simp only; omega
  have HA := hid (And.intro hs (And.intro hby (And.intro hd (And.intro hsz3 (And.intro o0 (And.intro o1 (And.intro o2 hb3)))))))
  have HL := hid (And.intro hl (And.intro hc9 hsl))
  go_enter Try.func72, Try.ntmps72
  go_wp2_with fail
  rw [← hW3]
  clear hW3 h c1 hsz3 o0 o1 o2 hb3 hb4 hC hs hby hc9 hd hn hl hsl
  refine wp_region_held_drew (S := fun w' => w'.cell? ⟨w.heap.size, 0, none⟩ = some (.pointer (some ⟨s, 0, none⟩))) (by kernel_rfl) k3 (fun hH => ?_)
  refine wpAnyH_take (i := 0) (v := ?_) (List.getElem?_toArray.trans rfl) (by kernel_rfl) (by kernel_rfl) (by kernel_rfl) (fun _ _ _ h => h) (Or.inl ⟨by rfl, ?_⟩) (by assumption) ?_
  rotate_left
  · (intro w hSw; (try dsimp only at hSw); go_simp; try (with_reducible rfl))
  simp only [Act.put, List.setIfInBounds_toArray, List.set_cons_zero, List.set_cons_succ]
  refine wpAnyH_take (i := 1) (v := ?_) (List.getElem?_toArray.trans rfl) (by kernel_rfl) (by kernel_rfl) (by kernel_rfl) (fun _ _ _ h => h) (Or.inl ⟨by rfl, ?_⟩) (by assumption) ?_
  rotate_left
  · (intro w hSw; (try dsimp only at hSw); go_simp; try (with_reducible rfl))
  simp only [Act.put, List.setIfInBounds_toArray, List.set_cons_zero, List.set_cons_succ]
  refine wpAnyH_take (i := 2) (v := ?_) (List.getElem?_toArray.trans rfl) (by kernel_rfl) (by kernel_rfl) (by kernel_rfl) (fun _ _ _ h => h) (Or.inl ⟨by rfl, ?_⟩) (by assumption) ?_
  rotate_left
  · (intro w hSw; (try dsimp only at hSw); go_simp; try (with_reducible rfl))
  simp only [Act.put, List.setIfInBounds_toArray, List.set_cons_zero, List.set_cons_succ]
  refine wpAnyH_take (i := 3) (v := ?_) (List.getElem?_toArray.trans rfl) (by kernel_rfl) (by kernel_rfl) (by kernel_rfl) (fun _ _ _ h => h) (Or.inl ⟨by rfl, ?_⟩) (by assumption) ?_
  rotate_left
  · (intro w hSw; (try dsimp only at hSw); go_simp; try (with_reducible rfl))
  simp only [Act.put, List.setIfInBounds_toArray, List.set_cons_zero, List.set_cons_succ]
  refine wpAnyH_take (i := 5) (v := ?_) (List.getElem?_toArray.trans rfl) (by kernel_rfl) (by kernel_rfl) (by kernel_rfl) (fun _ _ _ h => h) (Or.inl ⟨by rfl, ?_⟩) (by assumption) ?_
  rotate_left
  · (intro w hSw; (try dsimp only at hSw); go_simp; try (with_reducible rfl))
  simp only [Act.put, List.setIfInBounds_toArray, List.set_cons_zero, List.set_cons_succ]
  refine wpAnyH_take (i := 6) (v := ?_) (List.getElem?_toArray.trans rfl) (by kernel_rfl) (by kernel_rfl) (by kernel_rfl) (fun _ _ _ h => h) (Or.inl ⟨by rfl, ?_⟩) (by assumption) ?_
  rotate_left
  · (intro w hSw; (try dsimp only at hSw); go_simp; try (with_reducible rfl))
  simp only [Act.put, List.setIfInBounds_toArray, List.set_cons_zero, List.set_cons_succ]
  refine wpAnyH_ready (rs := [4, 7]) (by kernel_rfl) (by simp) ?_
  refine AllReadyH.cons (List.getElem?_toArray.trans rfl) (fun K1 hK1 => ?_) (AllReadyH.cons (List.getElem?_toArray.trans rfl) (fun K1 hK1 => ?_) AllReadyH.nil)
  · go_simp
    refine hK1.out _ _ (by assumption) (fun hHeld => ?_)
    clear hK1 K1
    refine wpAnyH_ready (rs := [7]) (by kernel_rfl) (by simp) ?_
    refine AllReadyH.cons (List.getElem?_toArray.trans rfl) (fun K2 hK2 => ?_) AllReadyH.nil
    go_simp
    refine hK2.out _ _ (k4 _) (fun hHeld2 => ?_)
    clear hK2 K2
    refine wpAnyH_ready (rs := [8]) (by kernel_rfl) (by simp) ?_
    refine AllReadyH.cons (List.getElem?_toArray.trans rfl) (fun K3 hK3 => ?_) AllReadyH.nil
    refine step_more (by rfl) (.tmp 13) (.tmp 16) (by rfl) HC (by rfl) (by rfl) ?_
    intro g cap w1 HP f5 d5
    have k5 := (HP.out.cell HC.out (Nat.le_refl _) lt0.out 0).trans k3
    refine hK3.out _ _ k5 (fun hHeld3 => ?_)
    clear hK3 K3
    simp only [Act.put, List.setIfInBounds_toArray, List.set_cons_zero, List.set_cons_succ]
    refine wpAnyH_take (i := 9) (v := ?_) (List.getElem?_toArray.trans rfl) (by kernel_rfl) (by kernel_rfl) (by kernel_rfl) (fun _ _ _ h => h) (Or.inl ⟨by rfl, ?_⟩) (by assumption) ?_
    rotate_left
    · (intro w hSw; (try dsimp only at hSw); go_simp; try (with_reducible rfl))
    simp only [Act.put, List.setIfInBounds_toArray, List.set_cons_zero, List.set_cons_succ]
    refine wpAnyH_take (i := 10) (v := ?_) (List.getElem?_toArray.trans rfl) (by kernel_rfl) (by kernel_rfl) (by kernel_rfl) (fun _ _ _ h => h) (Or.inl ⟨by rfl, ?_⟩) (by assumption) ?_
    rotate_left
    · (intro w hSw; (try dsimp only at hSw); go_simp; try (with_reducible rfl))
    simp only [Act.put, List.setIfInBounds_toArray, List.set_cons_zero, List.set_cons_succ]
    refine wpAnyH_ready (rs := [11]) (by kernel_rfl) (by simp) ?_
    refine AllReadyH.cons (List.getElem?_toArray.trans rfl) (fun K4 hK4 => ?_) AllReadyH.nil
    go_simp
    refine hK4.out _ _ ?_ (fun hHeld4 => ?_)
    · rw [World.cell?_setCell_far _ _ _ _ hnes]; exact k5
    clear hK4 K4
    refine wpAnyH_done (by kernel_rfl) ?_ _
    go_end0
    exact bring_end HC.out HP.out HA.out HL.out
  · go_simp
    refine hK1.out _ _ (k4 _) (fun hHeld => ?_)
    clear hK1 K1
    refine wpAnyH_ready (rs := [4]) (by kernel_rfl) (by simp) ?_
    refine AllReadyH.cons (List.getElem?_toArray.trans rfl) (fun K2 hK2 => ?_) AllReadyH.nil
    go_simp
    refine hK2.out _ _ (by assumption) (fun hHeld2 => ?_)
    clear hK2 K2
    refine wpAnyH_ready (rs := [8]) (by kernel_rfl) (by simp) ?_
    refine AllReadyH.cons (List.getElem?_toArray.trans rfl) (fun K3 hK3 => ?_) AllReadyH.nil
    refine step_more (by rfl) (.tmp 13) (.tmp 16) (by rfl) HC (by rfl) (by rfl) ?_
    intro g cap w1 HP f5 d5
    have k5 := (HP.out.cell HC.out (Nat.le_refl _) lt0.out 0).trans k3
    refine hK3.out _ _ k5 (fun hHeld3 => ?_)
    clear hK3 K3
    simp only [Act.put, List.setIfInBounds_toArray, List.set_cons_zero, List.set_cons_succ]
    refine wpAnyH_take (i := 9) (v := ?_) (List.getElem?_toArray.trans rfl) (by kernel_rfl) (by kernel_rfl) (by kernel_rfl) (fun _ _ _ h => h) (Or.inl ⟨by rfl, ?_⟩) (by assumption) ?_
    rotate_left
    · (intro w hSw; (try dsimp only at hSw); go_simp; try (with_reducible rfl))
    simp only [Act.put, List.setIfInBounds_toArray, List.set_cons_zero, List.set_cons_succ]
    refine wpAnyH_take (i := 10) (v := ?_) (List.getElem?_toArray.trans rfl) (by kernel_rfl) (by kernel_rfl) (by kernel_rfl) (fun _ _ _ h => h) (Or.inl ⟨by rfl, ?_⟩) (by assumption) ?_
    rotate_left
    · (intro w hSw; (try dsimp only at hSw); go_simp; try (with_reducible rfl))
    simp only [Act.put, List.setIfInBounds_toArray, List.set_cons_zero, List.set_cons_succ]
    refine wpAnyH_ready (rs := [11]) (by kernel_rfl) (by simp) ?_
    refine AllReadyH.cons (List.getElem?_toArray.trans rfl) (fun K4 hK4 => ?_) AllReadyH.nil
    go_simp
    refine hK4.out _ _ ?_ (fun hHeld4 => ?_)
    · rw [World.cell?_setCell_far _ _ _ _ hnes]; exact k5
    clear hK4 K4
    refine wpAnyH_done (by kernel_rfl) ?_ _
    go_end0
    exact bring_end HC.out HP.out HA.out HL.out
end Go.Proofs.Ytgiippbjieecmaa
