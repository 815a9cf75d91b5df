/- append of changes onto a row of the call's own. -/
import Derived.Test.YtjmmppphdmpceaaChg
import Derived.Laws.AppendOwnNone
namespace Go.Proofs.Ytjmmppphdmpceaa
open Go.RowKit
set_option linter.unusedVariables false

def catD (D : Nat → ChD) (n : Nat) (E : Nat → ChD) : Nat → ChD := fun i => if i < n then D i else E (i - n)
theorem catD_cells (D : Nat → ChD) (n : Nat) (E : Nat → ChD) (m : Nat) : cellsN (catD D n E) (n + m) = cellsN D n ++ cellsN E m := by
  induction m with
  | zero => rw [Nat.add_zero, cellsN_congr (E := D) (fun i hi => by simp [catD, hi])]; simp [cellsN]
  | succ m ih =>
    show cellsN (catD D n E) (n + m) ++ (catD D n E (n + m)).cells = _
    rw [ih]
    have : catD D n E (n + m) = E m := by unfold catD; rw [if_neg (by omega)]; congr 1; omega
    rw [this, List.append_assoc]
    rfl
theorem catD_says (D : Nat → ChD) (n : Nat) (E : Nat → ChD) (m : Nat) : saysN (catD D n E) (n + m) = saysN D n ++ saysN E m := by
  induction m with
  | zero => rw [Nat.add_zero, saysN_congr (E := D) (fun i hi => by simp [catD, hi])]; simp [saysN]
  | succ m ih =>
    show saysN (catD D n E) (n + m + 1) = _
    have : catD D n E (n + m) = E m := by unfold catD; rw [if_neg (by omega)]; congr 1; omega
    rw [saysN_succ, ih, this, saysN_succ, List.append_assoc]
theorem chs_of_row {B : Nat} {w : World} {ao : Option Addr} {n cap : Nat} {D : Nat → ChD} (h : w.ownsRow B 42 2 (.slice ao n cap) n (cellsN D n)) (hok : ∀ i, i < n → ChOk w (D i)) : Chs w ao n D := by
  rcases h.2 with ⟨hv, h0⟩ | ⟨g, cap', cur, hv, hg, hh, hc, hm, hs, ht⟩
  · subst h0
    exact ⟨by omega, fun h => absurd h (by omega), hok⟩
  · simp only [Value.slice.injEq] at hv
    obtain ⟨rfl, _, rfl⟩ := hv
    have hm' : cap ≤ 9223372036854775807 := by simpa [maxLen] using hm
    refine ⟨by omega, fun hn => ⟨g, 0, rfl, (Array.getElem?_eq_some_iff.1 hh).1, fun i hi => ?_⟩, hok⟩
    obtain ⟨c1, c2⟩ := cellsN_get D hi
    rw [Nat.zero_add, cell_of_row w g _ cur 42 (0, 0) hh, cell_of_row w g _ cur 42 (0, 0) hh]
    rw [← ht, List.getElem?_take, if_pos (by omega), Array.getElem?_toList] at c1 c2
    exact ⟨c1, c2⟩
theorem Chs.cells {w : World} {a : Addr} {m : Nat} {E : Nat → ChD} (h : Chs w (some a) m E) : ∀ j u, (cellsN E m)[j]? = some u → w.cell? (a.add j) = some u := by
  intro j u hu
  have hj : j < m * 2 := by
    have := (List.getElem?_eq_some_iff.1 hu).1
    rwa [cellsN_length] at this
  obtain ⟨b, off, e, _, hc⟩ := h.here (by omega)
  simp only [Option.some.injEq] at e
  subst e
  obtain ⟨c1, c2⟩ := hc (j / 2) (by omega)
  obtain ⟨d1, d2⟩ := cellsN_get E (show j / 2 < m by omega)
  rw [Addr.add_lit]
  rcases Nat.mod_two_eq_zero_or_one j with e | e
  · rw [show j / 2 * 2 = j by omega] at c1 d1
    rw [hu] at d1
    cases d1
    exact c1
  · rw [show off + j / 2 * 2 + 1 = off + j by omega] at c2
    rw [show j / 2 * 2 + 1 = j by omega, hu] at d2
    cases d2
    exact c2
theorem cells_one (E : Nat → ChD) (m : Nat) : ∀ u ∈ cellsN E m, u.oneCell' = true := by
  induction m with
  | zero => intro u hu; simp [cellsN] at hu
  | succ m ih =>
    intro u hu
    simp only [cellsN, List.mem_append] at hu
    rcases hu with hu | hu
    · exact ih u hu
    · simp [ChD.cells] at hu
      rcases hu with rfl | rfl <;> rfl
/-- 'append(l, e...)': l a row of the call's own, or nil; e can be read, or nil. -/
theorem append_chgs {w : World} {ops : Array Oper} {rest : List Oper} {o : Oper} {a : Act} {Q : Exit → Act → World → Prop} (hgd : o.guard = none) (s x : Operand)
    (ho : o.op = .call { callee := .builtin .append, args := #[s, x], argTypes := #[25, 25] })
    (B : Nat) (v : Value) (n : Nat) (D : Nat → ChD) (hs : a.eval s = v) (hown : w.ownsRow B 42 2 v n (cellsN D n))
    (so : Option Addr) (m c : Nat) (E : Nat → ChD) (hx : a.eval x = .slice so m c) (hsrc : Chs w so m E) (hvoid : so = none → c = 0 ∧ m = 0)
    (hb : (n + m) * 32 ≤ 140737488355328) (hB : B ≤ w.heap.size)
    (h : ∀ bo c' w', w'.ownsRow B 42 2 (.slice bo (n + m) c') (n + m) (cellsN (catD D n E) (n + m)) → w.grownBy w' v.ownBlock → wpList Try.prog ops Q rest (a.put o.dst (.slice bo (n + m) c')) w') : wpList Try.prog ops Q (o :: rest) a w := by
  obtain ⟨i0, hi, hz0, hz1, hz2⟩ := info_parts Try.info42
  cases so with
  | none =>
    obtain ⟨rfl, rfl⟩ := hvoid rfl
    obtain ⟨bo, c', rfl⟩ := own_sliceC hown
    refine wpList_append_own_none hgd s x 25 ho B 42 i0 2 Try.underlying25 hi _ n _ hs hown hx ?_
    exact h bo c' w (by rw [catD_cells]; simpa [cellsN] using hown) (World.grownBy.refl _ _)
  | some ad =>
    refine wpList_append_own _ hgd s x 25 ho B 42 i0 (.agg #[.int .i64 0, .slice none 0 0]) 2 32 Try.underlying25 hi hz0 hz1 hz2 rfl (by decide) v n _ hs hown ad m c (cellsN E m) hx (cellsN_length E m) hsrc.cells (cells_one E m) (by unfold maxLen; omega) (by omega) hB ?_
    intro v' w' hown' hgrow hnil
    obtain ⟨bo, c', rfl⟩ := own_sliceC hown'
    exact h bo c' w' (by rw [catD_cells]; exact hown') hgrow
end Go.Proofs.Ytjmmppphdmpceaa
