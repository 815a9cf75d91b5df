/- A slice of objects that came in, opened: each one can be read; its room is within the reach. -/
import Derived.Test.YtlghhhhgfnnjgaaDoorGapR
import Derived.Test.YtlghhhhgfnnjgaaDoorOpen
import Derived.Deep.Slices
import Derived.Deep.Grids
namespace Go.Proofs.YtlghhhhgfnnjgaaDoor
set_option maxRecDepth 100000
open Go.RowKit Go.ChangeShapes Go.WideShapes Go.ChangeAt Go.Deep
set_option linter.unusedVariables false

section
variable {H : Type} {enc : TypeId × Value → H} {W : World} {x : DataW H × List MemPlace} {fuel : Nat} {c : Value}
theorem open_object {cs : List Value} (h : DataW.trod enc Tryd.prog W 0 (fun _ => true) true fuel 39 cs = some x) : ∃ s : Spn, cs = s.cells ∧ RgP s := by
  obtain ⟨xs, n, _, _, hl, hlen, hf⟩ := DataW.trod_struct Tryd.underlying39 h
  have e2 : Tryd.prog.cellsOf 39 = 2 := by kernel_rfl
  have e3 : Tryd.prog.cellsOf 3 = 1 := by kernel_rfl
  rw [e2] at hl
  match cs, hl, xs, hlen with
  | [c0, c1], _, [y0, y1], _ =>
    have h0 : DataW.trod enc Tryd.prog W 0 (fun _ => true) true n 3 (([c0, c1].drop 0).take (Tryd.prog.cellsOf 3)) = some y0 := hf 0 _ rfl
    have h1 : DataW.trod enc Tryd.prog W 0 (fun _ => true) true n 3 (([c0, c1].drop 1).take (Tryd.prog.cellsOf 3)) = some y1 := hf 1 _ rfl
    rw [e3] at h0 h1
    obtain ⟨a0, f0, _, w0⟩ := DataW.trod_int Tryd.underlying3 h0
    obtain ⟨a1, f1, _, w1⟩ := DataW.trod_int Tryd.underlying3 h1
    simp at f0 f1
    subst f0 f1
    exact ⟨⟨a0, a1⟩, rfl, ⟨bounds_i64 w0, bounds_i64 w1⟩⟩
theorem cellsJ_spot {W : World} {b off k : Nat} {spot : _} {n : Nat} {cs : List Value} (h : W.cells? 0 ((⟨b, off, spot⟩ : Addr).add (0 * k)) n = some cs) (hn : 0 < n) : spot = none := by
  obtain ⟨_, h2, h3⟩ := World.cells?_some h
  have h4 := h3 0 (by omega)
  rw [List.getElem?_eq_getElem (by omega)] at h4
  simpa [Addr.add] using World.cell?_spot h4
theorem open_objects {a : Option Addr} {len cap : Nat} {d : DataW H} {p : List MemPlace} {ts : List TypeId} {ds : List (DataW H)} {j : Nat} (h : DataW.Trod enc Tryd.prog W 0 (fun _ => true) true 22 (.slice a len cap) d p) (hsz : (DataW.weightsEach Tryd.prog ts ds).all (· ≤ reachBytes) = true) (hj : ts[j]? = some 22) (hd : ds[j]? = some d) : ∃ l, Ps W a len cap l ∧ cap * 16 ≤ 140737488351232 := by
  obtain ⟨fuel, hf⟩ := h
  have e2 : Tryd.prog.cellsOf 39 = 2 := by kernel_rfl
  have e16 : Tryd.prog.bytesOf 39 = 16 := by kernel_rfl
  rcases open_slice Tryd.underlying22 hf with ⟨hcs, hz⟩ | ⟨y, l, cc, m, n, D, Pl, hcs, hx, hl, hm, hmm, hz, hel⟩
  · simp [Value.cells] at hcs
    obtain ⟨rfl, rfl, rfl⟩ := hcs
    exact ⟨[], ps_nil _, by omega⟩
  · simp [Value.cells] at hcs
    obtain ⟨rfl, rfl, rfl⟩ := hcs
    simp only [if_true] at hmm
    subst hmm
    simp only [Prod.mk.injEq] at hz
    obtain ⟨rfl, _⟩ := hz
    have hreach : m * 16 ≤ 140737488351232 := by
      have := sized_slice hsz (e := 39) hj hd Tryd.underlying22
      rw [e16] at this
      simp only [List.length_map, List.length_range, reachBytes] at this
      rw [show len + (m - len) = m by omega] at this
      exact this
    obtain ⟨b, off, spot⟩ := y
    rw [e2] at hel
    by_cases hpos : 0 < len
    · obtain rfl : spot = none := by
        obtain ⟨cs', h1, _⟩ := hel 0 (by omega)
        exact cellsJ_spot h1 (by omega)
      have hall : ∀ i, i < len → ∃ s : Spn, P2 W b (off + i * 2) s ∧ RgP s := by
        intro i hi
        obtain ⟨cs', h1, h2⟩ := hel i (by omega)
        obtain ⟨s, rfl, hr⟩ := open_object h2
        obtain ⟨_, _, h3⟩ := World.cells?_some h1
        refine ⟨s, P2.of fun j u hu => ?_, hr⟩
        have h4 := h3 j (List.getElem?_eq_some_iff.1 hu).1
        rw [hu, Addr.add_lit, Addr.add_lit] at h4
        exact h4
      obtain ⟨DD, hDD⟩ := choose_lt hall
      have hb : b < W.heap.size := World.block_lt_of_cell? W _ (hDD 0 hpos).1.c0
      refine ⟨(List.range len).map DD, ⟨by simp, hl, (by intro h; cases h), fun _ => ⟨b, off, rfl, hb, fun i hi => ?_⟩, fun s hs => ?_⟩, hreach⟩
      · have : pa ((List.range len).map DD) i = DD i := by simp [pa, List.getD, hi]
        rw [this]
        exact (hDD i hi).1
      · simp only [List.mem_map, List.mem_range] at hs
        obtain ⟨i, hi, rfl⟩ := hs
        exact (hDD i hi).2
    · obtain rfl : len = 0 := by omega
      exact ⟨[], ⟨rfl, hl, (by intro h; cases h), fun h => absurd h (by omega), fun s hs => by cases hs⟩, hreach⟩
end
end Go.Proofs.YtlghhhhgfnnjgaaDoor
