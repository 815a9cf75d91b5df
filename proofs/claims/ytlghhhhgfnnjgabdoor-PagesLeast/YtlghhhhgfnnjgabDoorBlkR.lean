/- Slices of blocks (three numbers each) that can be read. -/
import Derived.Test.YtlghhhhgfnnjgabDoorTagM
import Derived.Test.YtlghhhhgfnnjgabDoorPart
import Derived.Test.YtlghhhhgfnnjgabDoorOff
import Derived.Test.YtlghhhhgfnnjgabDoorInfo
import Derived.Laws.AppendOwnNone
namespace Go.Proofs.YtlghhhhgfnnjgabDoor
set_option maxRecDepth 100000
open Go.RowKit
set_option linter.unusedVariables false

def Blk.cells (s : Blk) : List Value := [.int .i64 s.pos, .int .i64 s.sz, .int .i64 s.ix]
def cellsB (l : List Blk) : List Value := l.flatMap Blk.cells
theorem Blk.cells_len (s : Blk) : s.cells.length = 3 := rfl
theorem cellsB_length (l : List Blk) : (cellsB l).length = l.length * 3 := by
  induction l with
  | nil => rfl
  | cons a r ih => simp only [cellsB, List.flatMap_cons, List.length_append, List.length_cons, Blk.cells_len]; simp only [cellsB] at ih; omega
theorem cellsB_append (a b : List Blk) : cellsB (a ++ b) = cellsB a ++ cellsB b := by simp [cellsB]
theorem cellsB_get (l : List Blk) {i j : Nat} (h : i < l.length) (hj : j < 3) : (cellsB l)[i * 3 + j]? = (ba l i).cells[j]? := by
  induction l generalizing i with
  | nil => simp at h
  | cons a r ih =>
    cases i with
    | zero =>
      simp only [cellsB, List.flatMap_cons]
      rw [Nat.zero_mul, Nat.zero_add, List.getElem?_append_left (by rw [Blk.cells_len]; exact hj)]
      rfl
    | succ i =>
      have := ih (i := i) (by simpa using h)
      simp only [cellsB, List.flatMap_cons] at this ⊢
      rw [List.getElem?_append_right (by rw [Blk.cells_len]; omega), Blk.cells_len, show (i + 1) * 3 + j - 3 = i * 3 + j by omega, this]
      rfl
theorem cellsB_one (l : List Blk) : ∀ u ∈ cellsB l, u.oneCell' = true := by
  intro u hu
  simp only [cellsB, List.mem_flatMap] at hu
  obtain ⟨s, _, hs⟩ := hu
  simp only [Blk.cells, List.mem_cons, List.not_mem_nil, or_false] at hs
  rcases hs with rfl | rfl | rfl <;> rfl

/-- Three cells are a block. -/
structure B3 (w : World) (b o : Nat) (s : Blk) : Prop where
  c0 : w.cell? ⟨b, o, none⟩ = some (.int .i64 s.pos)
  c1 : w.cell? ⟨b, o + 1, none⟩ = some (.int .i64 s.sz)
  c2 : w.cell? ⟨b, o + 2, none⟩ = some (.int .i64 s.ix)
theorem B3.of {w : World} {b o : Nat} {s : Blk} (h : ∀ j u, s.cells[j]? = some u → w.cell? ⟨b, o + j, none⟩ = some u) : B3 w b o s := ⟨h 0 _ rfl, h 1 _ rfl, h 2 _ rfl⟩
theorem B3.all {w : World} {b o : Nat} {s : Blk} (h : B3 w b o s) : ∀ j u, s.cells[j]? = some u → w.cell? ⟨b, o + j, none⟩ = some u := by
  intro j u hu
  match j, hu with
  | 0, hu => simp [Blk.cells] at hu; subst hu; exact h.c0
  | 1, hu => simp [Blk.cells] at hu; subst hu; exact h.c1
  | 2, hu => simp [Blk.cells] at hu; subst hu; exact h.c2
  | j + 3, hu => simp [Blk.cells] at hu
theorem B3.same {w w' : World} {b o : Nat} {s : Blk} (h : B3 w b o s) (e : w'.heap[b]? = w.heap[b]?) : B3 w' b o s := by
  refine B3.of fun j u hu => ?_
  rw [World.cell?_of_block (w := w) (a := ⟨b, o + j, none⟩) e]
  exact h.all j u hu
theorem B3.below {w w' : World} {b o : Nat} {s : Blk} (h : B3 w b o s) (hb : Below w.heap.size w w') : B3 w' b o s :=
  h.same (hb.block b (by have := World.block_lt_of_cell? w _ h.c0; exact this))

/-- A slice of n blocks that can be read. -/
structure Bs (w : World) (ao : Option Addr) (n cap : Nat) (l : List Blk) : Prop where
  len : l.length = n
  room : n ≤ cap
  void : ao = none → cap = 0
  here : 0 < n → ∃ b off, ao = some ⟨b, off, none⟩ ∧ b < w.heap.size ∧ ∀ i, i < n → B3 w b (off + i * 3) (ba l i)
  rg : ∀ s ∈ l, RgB s
theorem Bs.rgs {w : World} {ao : Option Addr} {n cap : Nat} {l : List Blk} (h : Bs w ao n cap l) {i : Nat} (hi : i < n) : RgB (ba l i) := h.rg _ (ba_mem (by rw [h.len]; exact hi))
theorem Bs.below {w w' : World} {ao : Option Addr} {n cap : Nat} {l : List Blk} (h : Bs w ao n cap l) (hb : Below w.heap.size w w') : Bs w' ao n cap l := by
  refine ⟨h.len, h.room, h.void, fun hn => ?_, h.rg⟩
  obtain ⟨b, off, e, hlt, hc⟩ := h.here hn
  exact ⟨b, off, e, Nat.lt_of_lt_of_le hlt hb.size, fun i hi => (hc i hi).below hb⟩
theorem Bs.off {F : Nat → Prop} {w w' : World} {ao : Option Addr} {n cap : Nat} {l : List Blk} (h : Bs w ao n cap l) (ho : Off F w w') (hno : 0 < n → ∀ c, ao = some c → ¬ F c.block) : Bs w' ao n cap l := by
  refine ⟨h.len, h.room, h.void, fun hn => ?_, h.rg⟩
  obtain ⟨b, off, e, hlt, hc⟩ := h.here hn
  exact ⟨b, off, e, Nat.lt_of_lt_of_le hlt ho.size, fun i hi => (hc i hi).same (ho.block b hlt (hno hn _ e))⟩
/-- A span of one, at a later world. -/
theorem Bs.at {w wr : World} {b off n cap : Nat} {l : List Blk} (h : Bs w (some ⟨b, off, none⟩) n cap l) (hb : Below w.heap.size w wr) {i : Nat} (hi : i < n) : B3 wr b (off + i * 3) (ba l i) := by
  obtain ⟨b', o', e, _, hc⟩ := (h.below hb).here (by omega)
  simp only [Option.some.injEq, Addr.mk.injEq, and_true] at e
  obtain ⟨rfl, rfl⟩ := e
  exact hc i hi
theorem bs_nil (w : World) : Bs w none 0 0 [] := ⟨rfl, Nat.le_refl _, fun _ => rfl, fun h => absurd h (by omega), fun s hs => by cases hs⟩
/-- The cells of a part of one. -/
theorem Bs.part {w : World} {b off n cap : Nat} {l : List Blk} (h : Bs w (some ⟨b, off, none⟩) n cap l) (i m : Nat) (hm : i + m ≤ n) :
    ∀ j u, (cellsB ((l.drop i).take m))[j]? = some u → w.cell? ((⟨b, off + i * 3, none⟩ : Addr).add j) = some u := by
  intro j u hu
  have hlen := h.len
  have hl : ((l.drop i).take m).length = m := by simp; omega
  have hj : j < m * 3 := by
    have := (List.getElem?_eq_some_iff.1 hu).1
    rw [cellsB_length, hl] at this
    exact this
  have hs := h.at (Below.refl _ _) (i := i + j / 3) (by omega)
  have hg := cellsB_get ((l.drop i).take m) (i := j / 3) (j := j % 3) (by omega) (Nat.mod_lt _ (by omega))
  rw [show j / 3 * 3 + j % 3 = j by omega, hu] at hg
  have e : ba ((l.drop i).take m) (j / 3) = ba l (i + j / 3) := by
    simp only [ba, List.getD]
    rw [List.getElem?_take, if_pos (by omega), List.getElem?_drop]
  rw [e] at hg
  have := hs.all (j % 3) u hg.symm
  rw [Addr.add_lit]
  rw [show off + (i + j / 3) * 3 + j % 3 = off + i * 3 + j by omega] at this
  exact this

theorem cellsB_set (l : List Blk) (k : Nat) (s : Blk) (h : k < l.length) : cellsB (l.set k s) = (((cellsB l).set (k * 3) (.int .i64 s.pos)).set (k * 3 + 1) (.int .i64 s.sz)).set (k * 3 + 2) (.int .i64 s.ix) := by
  apply List.ext_getElem?
  intro i
  by_cases hi : i < l.length * 3
  · have g1 := cellsB_get (l.set k s) (i := i / 3) (j := i % 3) (by rw [List.length_set]; omega) (Nat.mod_lt _ (by omega))
    have g2 := cellsB_get l (i := i / 3) (j := i % 3) (by omega) (Nat.mod_lt _ (by omega))
    rw [show i / 3 * 3 + i % 3 = i by omega] at g1 g2
    rw [g1]
    simp only [List.getElem?_set, List.length_set, cellsB_length]
    by_cases e : i / 3 = k
    · rw [e, ba_set_same l k s h]
      rcases (show i % 3 = 0 ∨ i % 3 = 1 ∨ i % 3 = 2 by omega) with e1 | e1 | e1
      · rw [e1, if_neg (by omega), if_neg (by omega), if_pos (by omega), if_pos (by omega)]; rfl
      · rw [e1, if_neg (by omega), if_pos (by omega), if_pos (by omega)]; rfl
      · rw [e1, if_pos (by omega), if_pos (by omega)]; rfl
    · rw [ba_set_other l k _ s (Ne.symm e), if_neg (by omega), if_neg (by omega), if_neg (by omega), g2]
  · rw [List.getElem?_eq_none (by rw [cellsB_length, List.length_set]; omega), List.getElem?_eq_none (by simp [cellsB_length]; omega)]
theorem own_sliceB {w : World} {B : Nat} {e : TypeId} {s : Nat} {v : Value} {n : Nat} {xs : List Value} (h : w.ownsRow B e s v n xs) : ∃ bo c, v = .slice bo n c := by
  rcases h.2 with ⟨h0, hn⟩ | ⟨g, cap, cur, rfl, _⟩
  · subst hn
    exact ⟨none, 0, h0⟩
  · exact ⟨_, _, rfl⟩
end Go.Proofs.YtlghhhhgfnnjgabDoor
