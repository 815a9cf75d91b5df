/- The first free block of each list, gap by gap. -/
import Derived.Test.YtclkooaepfedaaaDoorTagW
namespace Go.Proofs.YtclkooaepfedaaaDoor
set_option maxRecDepth 100000
open Go.RowKit
set_option linter.unusedVariables false
set_option linter.unusedSimpArgs false
set_option maxRecDepth 100000

/-- The block b holds seven numbers, P's. -/
def Fst (w : World) (b : Nat) (P : Nat → Int) : Prop := w.heap[b]? = some (.cells ((List.range 7).map fun k => Value.int .i64 (P k)).toArray 48 (0, 0))
theorem Fst.lt {w : World} {b : Nat} {P : Nat → Int} (h : Fst w b P) : b < w.heap.size := (Array.getElem?_eq_some_iff.1 h).1
theorem Fst.kept {w w' : World} {b : Nat} {P : Nat → Int} (h : Fst w b P) (hb : Below w.heap.size w w') : Fst w' b P := (hb.block b h.lt).trans h
theorem Fst.cell {w : World} {b : Nat} {P : Nat → Int} (h : Fst w b P) {k : Nat} (hk : k < 7) : w.cell? ⟨b, k, none⟩ = some (.int .i64 (P k)) := by
  rw [cell_of_row w b k _ 48 (0, 0) h]
  simp [hk]
theorem Fst.free {w : World} {b : Nat} {P : Nat → Int} (h : Fst w b P) (k : Nat) : w.frozen? ⟨b, k, none⟩ = false := frozen_of_row w b k _ 48 h
theorem Fst.set {w : World} {b : Nat} {P G : Nat → Int} {v : Int} (h : Fst w b P) {k : Nat} (hk : k < 7) (h1 : G k = v) (h2 : ∀ j, j < 7 → j ≠ k → G j = P j) : Fst (w.setCell ⟨b, k, none⟩ (.int .i64 v)) b G := by
  unfold Fst
  rw [heap_setCell_same w b k _ 48 _ h]
  congr 2
  apply Array.ext'
  rw [Array.toList_setIfInBounds]
  apply List.ext_getElem?
  intro i
  rw [List.getElem?_set]
  by_cases e : k = i
  · subst e
    rw [if_pos rfl, if_pos (by simp [hk])]
    simp [hk, h1]
  · rw [if_neg e]
    by_cases hi : i < 7
    · simp [hi, h2 i hi (fun x => e x.symm)]
    · simp [hi]
theorem Fst.eq {w : World} {b : Nat} {P G : Nat → Int} (h : Fst w b P) (e : ∀ k, k < 7 → P k = G k) : Fst w b G := by
  unfold Fst at h ⊢
  rw [h]
  congr 3
  apply List.map_congr_left
  intro k hk
  rw [e k (List.mem_range.1 hk)]
theorem fst_new (w : World) : Fst (w.alloc (.cells #[.int .i64 0, .int .i64 0, .int .i64 0, .int .i64 0, .int .i64 0, .int .i64 0, .int .i64 0] 48)) w.heap.size (fsL []) := heap_alloc_new w _
/-- What is still to come, i used blocks behind it. -/
def remL (t : Int) (l : List Blk) (i : Nat) (a : Int) : List Spn := if i ≤ l.length then gapsL a t (spL (l.drop i)) else []
/-- The way over the gaps. -/
structure LsI (f t : Int) (l : List Blk) (i : Nat) (a : Int) (G : List Spn) : Prop where
  all : G ++ remL t l i a = gapsL f t (spL l)
  pos : ∀ s ∈ G, 0 ≤ s.pos
  lo : 0 ≤ a
  lay : i ≤ l.length → LayP a t (spL (l.drop i)) ∧ a ≤ t ∧ a % 4 = 0
theorem LsI.start {f t : Int} {l : List Blk} (h : RightP f t (spL l)) : LsI f t l 0 f [] := by
  obtain ⟨⟨h0, h1, h2, h3, h4⟩, h5⟩ := h
  exact ⟨by simp [remL], (by intro s hs; cases hs), h0, fun _ => ⟨h5, h1, h3⟩⟩
theorem LsI.fin {f t : Int} {l : List Blk} {i : Nat} {a : Int} {G : List Spn} (h : LsI f t l i a G) (hi : ¬ i ≤ l.length) : G = gapsL f t (spL l) := by
  have := h.all
  unfold remL at this
  rw [if_neg hi] at this
  simpa using this
theorem LsI.bound {f t : Int} {l : List Blk} {i : Nat} {a : Int} {G : List Spn} (h : LsI f t l i a G) (ht : t % 4 = 0) (hi : i ≤ l.length) : a ≤ nxt l t i ∧ nxt l t i ≤ t ∧ nxt l t i % 4 = 0 ∧ a % 4 = 0 := by
  obtain ⟨h1, h2, h3⟩ := h.lay hi
  by_cases hm : i < l.length
  · rw [nxt_t hm]
    rw [spL_drop hm] at h1
    obtain ⟨⟨a1, a2, a3, a4, a5⟩, _⟩ := h1
    simp only [Blk.spn] at a1 a2 a3 a4 a5
    exact ⟨a1, by omega, a2, h3⟩
  · rw [nxt_f hm]
    exact ⟨h2, Int.le_refl _, ht, h3⟩
/-- The gap ahead of the next used block, or of the end. -/
theorem LsI.next {f t : Int} {l : List Blk} {i : Nat} {a : Int} {G : List Spn} (h : LsI f t l i a G) (hi : i ≤ l.length) :
    LsI f t l (i + 1) (if i < l.length then (ba l i).pos + (ba l i).sz else a) (G ++ gap1 a (nxt l t i)) := by
  obtain ⟨h1, h2, h3⟩ := h.lay hi
  have hlo := h.lo
  have hall := h.all
  unfold remL at hall
  rw [if_pos hi] at hall
  have hp : ∀ s ∈ G ++ gap1 a (nxt l t i), 0 ≤ s.pos := fun s hs => by
    rcases List.mem_append.1 hs with hs | hs
    · exact h.pos s hs
    · by_cases c : a < nxt l t i
      · rw [gap1_t c] at hs; simp at hs; subst hs; exact hlo
      · rw [gap1_f c] at hs; cases hs
  by_cases hm : i < l.length
  · rw [if_pos hm]
    rw [spL_drop hm] at h1
    obtain ⟨⟨a1, a2, a3, a4, a5⟩, hl2⟩ := h1
    simp only [Blk.spn, Spn.fin] at a1 a2 a3 a4 a5 hl2
    refine ⟨?_, hp, by omega, fun _ => ⟨hl2, by omega, by omega⟩⟩
    unfold remL
    rw [if_pos (by omega), ← hall, spL_drop hm, gapsL, nxt_t hm, List.append_assoc]
    rfl
  · rw [if_neg hm]
    refine ⟨?_, hp, hlo, fun h => absurd h (by omega)⟩
    unfold remL
    rw [if_neg (by omega), ← hall, nxt_f hm, List.drop_of_length_le (by omega)]
    simp [spL, gapsL]
theorem fs_more {G : List Spn} {s : Spn} (hG : ∀ x ∈ G, 0 ≤ x.pos) {k : Nat} (hk : k ≠ lsN s.sz) : fsL (G ++ [s]) k = fsL G k := by
  rw [fs_append _ _ _ hG, fs_next (fun e => hk e.symm), fs_nil]
  by_cases c : fsL G k = 0
  · rw [if_pos c, c]
  · rw [if_neg c]
theorem fs_more0 {G : List Spn} {s : Spn} (hG : ∀ x ∈ G, 0 ≤ x.pos) (h : fsL G (lsN s.sz) = 0) : fsL (G ++ [s]) (lsN s.sz) = s.pos + 1 := by
  rw [fs_append _ _ _ hG, if_pos h, fs_here rfl]
theorem fs_more1 {G : List Spn} {s : Spn} (hG : ∀ x ∈ G, 0 ≤ x.pos) (h : fsL G (lsN s.sz) ≠ 0) : fsL (G ++ [s]) (lsN s.sz) = fsL G (lsN s.sz) := by
  rw [fs_append _ _ _ hG, if_neg h]
end Go.Proofs.YtclkooaepfedaaaDoor
