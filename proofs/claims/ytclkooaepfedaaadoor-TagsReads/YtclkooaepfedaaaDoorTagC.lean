/- tags.layFree by its contract. -/
import Derived.Test.YtclkooaepfedaaaDoorTagA
import Derived.Test.YtclkooaepfedaaaDoorTagN
import Derived.Test.YtclkooaepfedaaaDoorRoundR
import Derived.Deep.RegionHeld3
namespace Go.Proofs.YtclkooaepfedaaaDoor
set_option maxRecDepth 100000
open Go.RowKit Go.Shelf
set_option linter.unusedVariables false
set_option linter.unusedSimpArgs false
set_option maxRecDepth 100000

/-- What the way forward lays. -/
def fw1 (f : Int) (g : List Spn) (i : Nat) : List (Nat × List Int) := [(8 * wd f (pa g i).pos, bys (64 * (pa g i).sz) 8), (8 * wd f ((pa g i).pos + (pa g i).sz - 1), bys (64 * (pa g i).sz) 8), (8 * (wd f (pa g i).pos + 2), bys (ahL g i) 8)]
def fwW (f : Int) (g : List Spn) (k : Nat) : List (Nat × List Int) := (List.range k).flatMap (fw1 f g)
theorem fwW_succ (f : Int) (g : List Spn) (k : Nat) : fwW f g (k + 1) = fwW f g k ++ fw1 f g k := by simp [fwW, List.range_succ]
theorem fw_step (b : List Int) (f : Int) (g : List Spn) (k : Nat) {p q : Nat} (hp : wd f (pa g k).pos = p) (hq : wd f ((pa g k).pos + (pa g k).sz - 1) = q) :
    putk (putk (putk (puts b (fwW f g k)) (8 * p) (64 * (pa g k).sz) 8) (8 * q) (64 * (pa g k).sz) 8) (8 * (p + 2)) (ahL g k) 8 = puts b (fwW f g (k + 1)) := by
  rw [fwW_succ, puts_append]
  simp only [fw1, puts, List.foldl_cons, List.foldl_nil, hp, hq, putk_splice]
/-- A place put into its list's. -/
def stP (P : Nat → Int) (s : Spn) : Nat → Int := fun k => if k = lsN s.sz then s.pos + 1 else P k
theorem stP_here (P : Nat → Int) (s : Spn) : stP P s (lsN s.sz) = s.pos + 1 := if_pos rfl
theorem stP_other (P : Nat → Int) (s : Spn) {k : Nat} (h : k ≠ lsN s.sz) : stP P s k = P k := if_neg h
theorem stP_fs (s : Spn) (r : List Spn) : stP (fsL r) s = fsL (s :: r) := funext fun k => by
  by_cases h : k = lsN s.sz
  · rw [h, stP_here, fs_here rfl]
  · rw [stP_other _ _ h, fs_next (fun e => h e.symm)]
/-- The places, and what was laid, behind some blocks. -/
def stB (f : Int) (g : List Spn) (pre : List Nat) : (Nat → Int) × List (Nat × List Int) :=
  pre.foldl (fun st i => (stP st.1 (pa g i), st.2 ++ [(8 * (wd f (pa g i).pos + 1), bys (st.1 (lsN (pa g i).sz)) 8)])) (fun _ => 0, [])
theorem stB_snoc (f : Int) (g : List Spn) (pre : List Nat) (i : Nat) : stB f g (pre ++ [i]) = (stP (stB f g pre).1 (pa g i), (stB f g pre).2 ++ [(8 * (wd f (pa g i).pos + 1), bys ((stB f g pre).1 (lsN (pa g i).sz)) 8)]) := by simp [stB]
theorem stB_bound (f : Int) (g : List Spn) (hg : ∀ s ∈ g, 0 ≤ s.pos ∧ s.pos ≤ 2048) (pre : List Nat) (k : Nat) : 0 ≤ (stB f g pre).1 k ∧ (stB f g pre).1 k ≤ 2049 := by
  induction pre using snoc_ind generalizing k with
  | nil => exact ⟨by simp [stB], by simp [stB]⟩
  | snoc W i ih =>
    rw [stB_snoc]
    have hz : 0 ≤ (pa g i).pos ∧ (pa g i).pos ≤ 2048 := by
      by_cases h : i < g.length
      · exact hg _ (pa_mem h)
      · have e : pa g i = Spn.z := by simp [pa, List.getD, List.getElem?_eq_none (show g.length ≤ i by omega)]
        rw [e]; exact ⟨by decide, by decide⟩
    by_cases h : k = lsN (pa g i).sz
    · simp only [h, stP_here]; omega
    · simp only [stP_other _ _ h]; exact ih k
def bwW (f : Int) (g : List Spn) : List Nat → List (Nat × List Int) := List.map fun i => (8 * (wd f (pa g i).pos + 1), bys (nxL g i) 8)
theorem stB_down (f : Int) (g : List Spn) {k : Nat} (hk : k ≤ g.length) : stB f g (((dnL g.length).take k).map Fin.val) = (fsL (g.drop (g.length - k)), bwW f g (((dnL g.length).take k).map Fin.val)) := by
  induction k with
  | zero => simp [stB, bwW]; funext k; rfl
  | succ k ih =>
    rw [dnL_take (by omega), List.map_append, List.map_singleton, stB_snoc, ih (by omega)]
    have e : g.drop (g.length - (k + 1)) = pa g (g.length - 1 - k) :: g.drop (g.length - k) := by
      rw [drop_pa (by omega), show g.length - (k + 1) + 1 = g.length - k by omega, show g.length - (k + 1) = g.length - 1 - k by omega]
    refine Prod.ext ?_ ?_
    · simp only
      rw [stP_fs, e]
    · simp only [bwW, List.map_append, List.map_singleton, nxL]
      rw [show g.length - 1 - k + 1 = g.length - k by omega]
theorem stB_all (f : Int) (g : List Spn) : stB f g ((dnL g.length).map Fin.val) = (fsL g, bwW f g ((dnL g.length).map Fin.val)) := by
  have := stB_down f g (k := g.length) (Nat.le_refl _)
  rwa [List.take_of_length_le (by rw [dnL_length]; omega), Nat.sub_self, List.drop_zero] at this
/-- All that layFree lays. -/
def frW (f : Int) (g : List Spn) : List (Nat × List Int) := fwW f g g.length ++ bwW f g ((dnL g.length).map Fin.val)
theorem mem_frW {f : Int} {g : List Spn} {x : Nat × List Int} : x ∈ frW f g ↔ ∃ i, i < g.length ∧ x ∈ gW f (pa g i) (nxL g i) (ahL g i) := by
  have hm : ∀ i, i < g.length → i ∈ (dnL g.length).map Fin.val := fun i hi => List.mem_map.2 ⟨⟨i, hi⟩, by simp [dnL], rfl⟩
  have hm' : ∀ i, i ∈ (dnL g.length).map Fin.val → i < g.length := fun i hi => by
    obtain ⟨y, _, rfl⟩ := List.mem_map.1 hi
    exact y.2
  simp only [frW, List.mem_append, fwW, List.mem_flatMap, List.mem_range, bwW, List.mem_map (f := fun i => (8 * (wd f (pa g i).pos + 1), bys (nxL g i) 8))]
  constructor
  · rintro (⟨i, hi, hx⟩ | ⟨i, hi, rfl⟩)
    · refine ⟨i, hi, ?_⟩
      simp only [fw1, List.mem_cons, List.not_mem_nil, or_false] at hx
      simp only [gW, List.mem_cons, List.not_mem_nil, or_false]
      rcases hx with h | h | h
      · exact .inl h
      · exact .inr (.inl h)
      · exact .inr (.inr (.inr h))
    · exact ⟨i, hm' i hi, by simp [gW]⟩
  · rintro ⟨i, hi, hx⟩
    simp only [gW, List.mem_cons, List.not_mem_nil, or_false] at hx
    rcases hx with h | h | h | h
    · exact .inl ⟨i, hi, by simp [fw1, h]⟩
    · exact .inl ⟨i, hi, by simp [fw1, h]⟩
    · exact .inr ⟨i, hm i hi, h.symm⟩
    · exact .inl ⟨i, hi, by simp [fw1, h]⟩

/-- The variables of layFree. -/
structure LF (w : World) (gb B N cap : Nat) (f : Int) (zs : List Int) (PA PN : Nat → Int) (W : World) : Prop where
  own : Own .u8 5 B W (some ⟨gb, 0, none⟩) N cap zs
  pa : Plc W (w.heap.size + 3) PA
  pn : Plc W (w.heap.size + 4) PN
  res : Plc W (w.heap.size + 2) (fun _ => 0)
  b3 : W.heap[w.heap.size]? = some (.cells #[.slice (some ⟨gb, 0, none⟩) N cap] 26 (0, 0))
  b4 : W.heap[w.heap.size + 1]? = some (.cells #[.int .i64 f] 3 (0, 0))
  off : Off (fun j => j = gb) w W
  gb : gb < w.heap.size
theorem LF.lt {w : World} {gb B N cap : Nat} {f : Int} {zs : List Int} {PA PN : Nat → Int} {W : World} (h : LF w gb B N cap f zs PA PN W) : w.heap.size + 4 < W.heap.size := h.pn.lt
theorem LF.to {w : World} {gb B N cap : Nat} {f : Int} {zs : List Int} {PA PN : Nat → Int} {W W' : World} (h : LF w gb B N cap f zs PA PN W) {F : Nat → Prop} (ho : Off F W W') (hF : ∀ j, F j → w.heap.size + 5 ≤ j) : LF w gb B N cap f zs PA PN W' := by
  have hl := h.lt
  have hg := h.gb
  have no : ∀ j, j < w.heap.size + 5 → ¬ F j := fun j hj hf => by have := hF j hf; omega
  refine ⟨h.own.off ho (fun c e => by cases e; exact no _ (by simp only; omega)), h.pa.off ho (no _ (by omega)), h.pn.off ho (no _ (by omega)), h.res.off ho (no _ (by omega)), (ho.block _ (by omega) (no _ (by omega))).trans h.b3, (ho.block _ (by omega) (no _ (by omega))).trans h.b4, h.off.trans ho (fun j hj => Or.inr (by have := hF j hj; omega)), hg⟩
theorem LF.kept {w : World} {gb B N cap : Nat} {f : Int} {zs : List Int} {PA PN : Nat → Int} {W W' : World} (h : LF w gb B N cap f zs PA PN W) (hb : Below W.heap.size W W') : LF w gb B N cap f zs PA PN W' := h.to (F := fun _ => False) (Off.of_below hb) (fun _ h => h.elim)
theorem LF.lay {w : World} {gb B N cap : Nat} {f : Int} {zs zs' : List Int} {PA PN : Nat → Int} {W W' : World} (h : LF w gb B N cap f zs PA PN W) (ho : Own .u8 5 B W' (some ⟨gb, 0, none⟩) N cap zs') (hf : Off (fun j => j = gb) W W') : LF w gb B N cap f zs' PA PN W' := by
  have hl := h.lt
  have hg := h.gb
  exact ⟨ho, h.pa.off hf (by omega), h.pn.off hf (by omega), h.res.off hf (by omega), (hf.block _ (by omega) (by omega)).trans h.b3, (hf.block _ (by omega) (by omega)).trans h.b4, h.off.trans hf (fun j hj => Or.inl hj), hg⟩
theorem LF.swA {w : World} {gb B N cap : Nat} {f : Int} {zs : List Int} {PA PN G : Nat → Int} {W W' : World} (h : LF w gb B N cap f zs PA PN W) (hp : Plc W' (w.heap.size + 3) G) (hf : Off (fun j => j = w.heap.size + 3) W W') : LF w gb B N cap f zs G PN W' := by
  have hl := h.lt
  have hg := h.gb
  exact ⟨h.own.off hf (fun c e => by cases e; simp only; omega), hp, h.pn.off hf (by omega), h.res.off hf (by omega), (hf.block _ (by omega) (by omega)).trans h.b3, (hf.block _ (by omega) (by omega)).trans h.b4, h.off.trans hf (fun j hj => Or.inr (by omega)), hg⟩
theorem LF.swN {w : World} {gb B N cap : Nat} {f : Int} {zs : List Int} {PA PN G : Nat → Int} {W W' : World} (h : LF w gb B N cap f zs PA PN W) (hp : Plc W' (w.heap.size + 4) G) (hf : Off (fun j => j = w.heap.size + 4) W W') : LF w gb B N cap f zs PA G W' := by
  have hl := h.lt
  have hg := h.gb
  exact ⟨h.own.off hf (fun c e => by cases e; simp only; omega), h.pa.off hf (by omega), hp, h.res.off hf (by omega), (hf.block _ (by omega) (by omega)).trans h.b3, (hf.block _ (by omega) (by omega)).trans h.b4, h.off.trans hf (fun j hj => Or.inr (by omega)), hg⟩
theorem LF.cells {w : World} {gb B N cap : Nat} {f : Int} {zs : List Int} {PA PN : Nat → Int} {W : World} (h : LF w gb B N cap f zs PA PN W) : W.cell? ⟨w.heap.size, 0, none⟩ = some (.slice (some ⟨gb, 0, none⟩) N cap) ∧ W.cell? ⟨w.heap.size + 1, 0, none⟩ = some (.int .i64 f) :=
  ⟨by rw [cell_of_row W _ 0 _ 26 (0, 0) h.b3]; rfl, by rw [cell_of_row W _ 0 _ 3 (0, 0) h.b4]; rfl⟩
theorem LF.mst {w : World} {gb B N cap : Nat} {f : Int} {zs : List Int} {PA PN : Nat → Int} {W : World} (h : LF w gb B N cap f zs PA PN W) (T : Mst w) (hg : 0 < gb) : Mst W := T.off h.off (by omega)
end Go.Proofs.YtclkooaepfedaaaDoor
