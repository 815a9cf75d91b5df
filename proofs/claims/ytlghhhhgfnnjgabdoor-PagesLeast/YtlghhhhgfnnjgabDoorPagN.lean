/- The kinds of pages as a row that is laid object by object. -/
import Derived.Test.YtlghhhhgfnnjgabDoorPlcM
namespace Go.Proofs.YtlghhhhgfnnjgabDoor
set_option maxRecDepth 100000
set_option linter.unusedVariables false
set_option linter.unusedSimpArgs false

theorem map_range_set (N : Nat) (f : Nat → Int) (i : Nat) (v : Int) : ((List.range N).map f).set i v = (List.range N).map (fun p => if p = i then v else f p) := by
  apply List.ext_getElem
  · simp
  · intro k h1 h2
    simp only [List.length_set, List.length_map, List.length_range] at h1
    rw [List.getElem_set]
    simp only [List.getElem_map, List.getElem_range]
    by_cases e : i = k
    · subst e; simp
    · rw [if_neg e, if_neg (fun h => e h.symm)]
theorem map_range_eq {N : Nat} {f g : Nat → Int} (h : ∀ i, i < N → f i = g i) : (List.range N).map f = (List.range N).map g :=
  List.map_congr_left fun i hi => h i (List.mem_range.1 hi)
/-- A row of pages of which the first k are free yet, the others 0. -/
def fpL (N k : Nat) : List Int := (List.range N).map (fun p => if p < k then -1 else 0)
theorem frL_zero (N : Nat) : fpL N 0 = List.replicate N 0 := by
  apply List.ext_getElem
  · simp [fpL]
  · intro i h1 h2
    simp [fpL]
theorem frL_set (N k : Nat) : (fpL N k).set k (-1) = fpL N (k + 1) := by
  unfold fpL
  rw [map_range_set]
  refine map_range_eq fun i hi => ?_
  by_cases e : i = k
  · rw [if_pos e, if_pos (by omega)]
  · rw [if_neg e]
    by_cases h : i < k
    · rw [if_pos h, if_pos (by omega)]
    · rw [if_neg h, if_neg (by omega)]
theorem frL_all (P : Int) : fpL P.toNat P.toNat = kzN P [] := by
  unfold fpL kzN
  refine map_range_eq fun i hi => ?_
  rw [if_pos hi]
  rfl
theorem kzN_small {P : Int} {l : List Spn} {o : Spn} (h : RightO P (l ++ [o])) (hs : o.sz ≤ 120) : kzN P (l ++ [o]) = (kzN P l).set (pgA o).toNat (clN o.sz) := by
  have hw := (rightO_snoc.1 h).2.1.within
  unfold kzN
  rw [map_range_set]
  refine map_range_eq fun i hi => ?_
  rw [kdL_snoc h]
  by_cases e : i = (pgA o).toNat
  · rw [if_pos e, if_pos ⟨by omega, by rw [pgK_small hs]; omega⟩, kdO_small hs]
  · rw [if_neg e, if_neg (fun c => by obtain ⟨c1, c2⟩ := c; rw [pgK_small hs] at c2; omega)]
/-- A large one's first j pages laid. -/
def lgL (P : Int) (l : List Spn) (a : Nat) (j : Nat) : List Int := (List.range P.toNat).map (fun p => if a ≤ p ∧ p < a + j then 7 else kdL l (p : Nat))
theorem lgL_zero (P : Int) (l : List Spn) (a : Nat) : lgL P l a 0 = kzN P l := by
  unfold lgL kzN
  refine map_range_eq fun i hi => ?_
  rw [if_neg (by omega)]
theorem lgL_len (P : Int) (l : List Spn) (a j : Nat) : (lgL P l a j).length = P.toNat := by simp [lgL]
theorem lgL_set (P : Int) (l : List Spn) (a j : Nat) : (lgL P l a j).set (a + j) 7 = lgL P l a (j + 1) := by
  unfold lgL
  rw [map_range_set]
  refine map_range_eq fun i hi => ?_
  by_cases e : i = a + j
  · rw [if_pos e, if_pos (by omega)]
  · rw [if_neg e]
    by_cases h : a ≤ i ∧ i < a + j
    · rw [if_pos h, if_pos (by omega)]
    · rw [if_neg h, if_neg (by omega)]
theorem lgL_at {P : Int} {l : List Spn} {a j : Nat} (h : a + j < P.toNat) (d : Int) : (lgL P l a j).getD (a + j) d = kdL l ((a + j : Nat) : Int) := by
  simp only [lgL, List.getD, List.getElem?_map, List.getElem?_range h, Option.map_some, Option.getD_some]
  rw [if_neg (by omega)]
theorem kzN_large {P : Int} {l : List Spn} {o : Spn} (h : RightO P (l ++ [o])) (hs : ¬ o.sz ≤ 120) : kzN P (l ++ [o]) = (lgL P l (pgA o).toNat (pgK o).toNat).set (pgA o).toNat 6 := by
  have hin := (rightO_snoc.1 h).2.1
  have hw := hin.within
  have hk := hin.pgk
  unfold kzN lgL
  rw [map_range_set]
  refine map_range_eq fun i hi => ?_
  rw [kdL_snoc h]
  by_cases e : i = (pgA o).toNat
  · rw [if_pos e, if_pos ⟨by omega, by omega⟩, kdO_large hs, if_pos (by omega)]
  · rw [if_neg e]
    by_cases c : HasC o i
    · rw [if_pos c, if_pos (by obtain ⟨c1, c2⟩ := c; omega), kdO_large hs, if_neg (by obtain ⟨c1, c2⟩ := c; omega)]
    · rw [if_neg c, if_neg (fun x => c ⟨by omega, by omega⟩)]
/-- What breaks the rightness of a further one. -/
theorem not_small {P : Int} {l : List Spn} {o : Spn} (hs : o.sz ≤ 120) (h : RightO P l) (hk : kdL l (pgA o) ≠ -1 ∧ kdL l (pgA o) ≠ clN o.sz) : ¬ RightO P (l ++ [o]) := fun c => by
  rcases ((h.small hs).1 c).2.1 with e | e
  · exact hk.1 e
  · exact hk.2 e
theorem rightO_prefix {P : Int} {l : List Spn} {k : Nat} (h : ¬ RightO P (l.take k)) : ¬ RightO P l := fun c => h (c.take k)
end Go.Proofs.YtlghhhhgfnnjgabDoor
