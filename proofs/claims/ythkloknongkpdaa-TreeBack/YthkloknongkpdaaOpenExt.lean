/- Slices of extents that came in, opened: each one can be read. -/
import Derived.Test.YthkloknongkpdaaMtC
import Derived.Test.YthkloknongkpdaaOpen
import Derived.Deep.Slices
import Derived.Deep.Grids
namespace Go.Proofs.Ythkloknongkpdaa
set_option maxRecDepth 100000
open Go.RowKit Go.ChangeShapes Go.WideShapes Go.ChangeAt Go.Deep
set_option linter.unusedVariables false

section
variable {H : Type} {enc : TypeId × Value → H} {W : World} {x : DataW H × List MemPlace} {fuel : Nat} {c : Value}
theorem open_ext {cs : List Value} (h : DataW.trod enc Try.prog W 0 (fun _ => true) true fuel 42 cs = some x) : ∃ s : Blk, cs = s.cells ∧ RgB s := by
  obtain ⟨xs, n, _, _, hl, hlen, hf⟩ := DataW.trod_struct Try.underlying42 h
  have e2 : Try.prog.cellsOf 42 = 3 := by kernel_rfl
  have e3 : Try.prog.cellsOf 3 = 1 := by kernel_rfl
  rw [e2] at hl
  match cs, hl, xs, hlen with
  | [c0, c1, c2], _, [y0, y1, y2], _ =>
    have h0 : DataW.trod enc Try.prog W 0 (fun _ => true) true n 3 (([c0, c1, c2].drop 0).take (Try.prog.cellsOf 3)) = some y0 := hf 0 _ rfl
    have h1 : DataW.trod enc Try.prog W 0 (fun _ => true) true n 3 (([c0, c1, c2].drop 1).take (Try.prog.cellsOf 3)) = some y1 := hf 1 _ rfl
    have h2 : DataW.trod enc Try.prog W 0 (fun _ => true) true n 3 (([c0, c1, c2].drop 2).take (Try.prog.cellsOf 3)) = some y2 := hf 2 _ rfl
    rw [e3] at h0 h1 h2
    obtain ⟨a0, f0, _, w0⟩ := DataW.trod_int Try.underlying3 h0
    obtain ⟨a1, f1, _, w1⟩ := DataW.trod_int Try.underlying3 h1
    obtain ⟨a2, f2, _, w2⟩ := DataW.trod_int Try.underlying3 h2
    simp at f0 f1 f2
    subst f0 f1 f2
    exact ⟨⟨a0, a1, a2⟩, rfl, ⟨bounds_i64 w0, bounds_i64 w1, bounds_i64 w2⟩⟩
theorem cellsX_spot {W : World} {b off k : Nat} {spot : _} {n : Nat} {cs : List Value} (h : W.cells? 0 ((⟨b, off, spot⟩ : Addr).add (0 * k)) n = some cs) (hn : 0 < n) : spot = none := by
  obtain ⟨_, h2, h3⟩ := World.cells?_some h
  have h4 := h3 0 (by omega)
  rw [List.getElem?_eq_getElem (by omega)] at h4
  simpa [Addr.add] using World.cell?_spot h4
theorem open_exts {a : Option Addr} {len cap : Nat} {d : DataW H} {p : List MemPlace} {ts : List TypeId} {ds : List (DataW H)} {j : Nat} (h : DataW.Trod enc Try.prog W 0 (fun _ => true) true 23 (.slice a len cap) d p) (hsz : (DataW.weightsEach Try.prog ts ds).all (· ≤ reachBytes) = true) (hj : ts[j]? = some 23) (hd : ds[j]? = some d) : ∃ l, Bs W a len cap l ∧ cap * 24 ≤ 140737488351232 := by
  obtain ⟨fuel, hf⟩ := h
  have e2 : Try.prog.cellsOf 42 = 3 := by kernel_rfl
  have e16 : Try.prog.bytesOf 42 = 24 := by kernel_rfl
  rcases open_slice Try.underlying23 hf with ⟨hcs, hz⟩ | ⟨y, l, cc, m, n, D, Pl, hcs, hx, hl, hm, hmm, hz, hel⟩
  · simp [Value.cells] at hcs
    obtain ⟨rfl, rfl, rfl⟩ := hcs
    exact ⟨[], bs_nil _, by omega⟩
  · simp [Value.cells] at hcs
    obtain ⟨rfl, rfl, rfl⟩ := hcs
    simp only [if_true] at hmm
    subst hmm
    simp only [Prod.mk.injEq] at hz
    obtain ⟨rfl, _⟩ := hz
    have hreach : m * 24 ≤ 140737488351232 := by
      have := sized_slice hsz (e := 42) hj hd Try.underlying23
      rw [e16] at this
      simp only [List.length_map, List.length_range, reachBytes] at this
      rw [show len + (m - len) = m by omega] at this
      exact this
    obtain ⟨b, off, spot⟩ := y
    rw [e2] at hel
    by_cases hpos : 0 < len
    · obtain rfl : spot = none := by
        obtain ⟨cs', h1, _⟩ := hel 0 (by omega)
        exact cellsX_spot h1 (by omega)
      have hall : ∀ i, i < len → ∃ s : Blk, B3 W b (off + i * 3) s ∧ RgB s := by
        intro i hi
        obtain ⟨cs', h1, h2⟩ := hel i (by omega)
        obtain ⟨s, rfl, hr⟩ := open_ext h2
        obtain ⟨_, _, h3⟩ := World.cells?_some h1
        refine ⟨s, B3.of fun j u hu => ?_, hr⟩
        have h4 := h3 j (List.getElem?_eq_some_iff.1 hu).1
        rw [hu, Addr.add_lit, Addr.add_lit] at h4
        exact h4
      obtain ⟨DD, hDD⟩ := choose_lt hall
      have hb : b < W.heap.size := World.block_lt_of_cell? W _ (hDD 0 hpos).1.c0
      refine ⟨(List.range len).map DD, ⟨by simp, hl, (by intro h; cases h), fun _ => ⟨b, off, rfl, hb, fun i hi => ?_⟩, fun s hs => ?_⟩, hreach⟩
      · have : ba ((List.range len).map DD) i = DD i := by simp [ba, List.getD, hi]
        rw [this]
        exact (hDD i hi).1
      · simp only [List.mem_map, List.mem_range] at hs
        obtain ⟨i, hi, rfl⟩ := hs
        exact (hDD i hi).2
    · obtain rfl : len = 0 := by omega
      exact ⟨[], ⟨rfl, hl, (by intro h; cases h), fun h => absurd h (by omega), fun s hs => by cases hs⟩, hreach⟩
end
end Go.Proofs.Ythkloknongkpdaa
