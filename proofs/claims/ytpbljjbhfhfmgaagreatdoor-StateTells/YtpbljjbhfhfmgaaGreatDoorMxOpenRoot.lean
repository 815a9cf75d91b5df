/- OpenRoot: these texts, one behind another. -/
import Derived.Test.YtpbljjbhfhfmgaaGreatDoorMxStV
import Derived.Test.YtpbljjbhfhfmgaaGreatDoorMxOpen
import Derived.Deep.Slices
import Derived.Deep.Grids
/- A slice of roots that came in, opened: each one can be read; its room is within the reach. -/
namespace Go.Proofs.YtpbljjbhfhfmgaaGreatDoor
set_option maxRecDepth 100000
open Go.RowKit Go.ChangeShapes Go.WideShapes Go.ChangeAt Go.Deep
set_option linter.unusedVariables false

section
variable {H : Type} {enc : TypeId × Value → H} {W : World} {x : DataW H × List MemPlace} {fuel : Nat} {c : Value}
theorem open_hcells {cs : List Value} (h : DataW.trod enc Tryz.prog W 0 (fun _ => true) true fuel 50 cs = some x) : ∃ I G : Int, cs = [.int .i64 I, .int .i64 G] := by
  obtain ⟨xs, n, _, _, hl, hlen, hf⟩ := DataW.trod_struct Tryz.underlying50 h
  have e2 : Tryz.prog.cellsOf 50 = 2 := by kernel_rfl
  have e3 : Tryz.prog.cellsOf 3 = 1 := by kernel_rfl
  rw [e2] at hl
  match cs, hl, xs, hlen with
  | [c0, c1], _, [y0, y1], _ =>
    have h0 : DataW.trod enc Tryz.prog W 0 (fun _ => true) true n 3 (([c0, c1].drop 0).take (Tryz.prog.cellsOf 3)) = some y0 := hf 0 _ rfl
    have h1 : DataW.trod enc Tryz.prog W 0 (fun _ => true) true n 3 (([c0, c1].drop 1).take (Tryz.prog.cellsOf 3)) = some y1 := hf 1 _ rfl
    rw [e3] at h0 h1
    obtain ⟨a0, f0, _, w0⟩ := DataW.trod_int Tryz.underlying3 h0
    obtain ⟨a1, f1, _, w1⟩ := DataW.trod_int Tryz.underlying3 h1
    simp at f0 f1
    subst f0 f1
    exact ⟨a0, a1, rfl⟩
theorem open_root {cs : List Value} (h : DataW.trod enc Tryz.prog W 0 (fun _ => true) true fuel 52 cs = some x) : ∃ r : Rt, cs = r.cells ∧ RgR r := by
  obtain ⟨xs, n, _, _, hl, hlen, hf⟩ := DataW.trod_struct Tryz.underlying52 h
  have e5 : Tryz.prog.cellsOf 52 = 3 := by kernel_rfl
  have e3 : Tryz.prog.cellsOf 9 = 1 := by kernel_rfl
  have e4 : Tryz.prog.cellsOf 50 = 2 := by kernel_rfl
  rw [e5] at hl
  match cs, hl, xs, hlen with
  | [c0, c1, c2], _, [y0, y1], _ =>
    have h0 : DataW.trod enc Tryz.prog W 0 (fun _ => true) true n 9 (([c0, c1, c2].drop 0).take (Tryz.prog.cellsOf 9)) = some y0 := hf 0 _ rfl
    have h1 : DataW.trod enc Tryz.prog W 0 (fun _ => true) true n 50 (([c0, c1, c2].drop 1).take (Tryz.prog.cellsOf 50)) = some y1 := hf 1 _ rfl
    rw [e3] at h0
    rw [e4] at h1
    obtain ⟨s0, f0, _, w0⟩ := DataW.trod_string Tryz.underlying9 h0
    obtain ⟨I, G, f1⟩ := open_hcells h1
    simp at f0 f1
    obtain ⟨rfl, rfl⟩ := f1
    subst f0
    exact ⟨⟨s0, I, G⟩, rfl, by unfold RgR; simpa [maxLen] using w0⟩
theorem cells_spotR {W : World} {b off k : Nat} {spot : _} {n : Nat} {cs : List Value} (h : W.cells? 0 ((⟨b, off, spot⟩ : Addr).add (0 * k)) n = some cs) (hn : 0 < n) : spot = none := by
  obtain ⟨_, h2, h3⟩ := World.cells?_some h
  have h4 := h3 0 (by omega)
  rw [List.getElem?_eq_getElem (by omega)] at h4
  simpa [Addr.add] using World.cell?_spot h4
theorem open_roots {a : Option Addr} {len cap : Nat} {d : DataW H} {p : List MemPlace} {ts : List TypeId} {ds : List (DataW H)} {j : Nat} (h : DataW.Trod enc Tryz.prog W 0 (fun _ => true) true 25 (.slice a len cap) d p) (hsz : (DataW.weightsEach Tryz.prog ts ds).all (· ≤ reachBytes) = true) (hj : ts[j]? = some 25) (hd : ds[j]? = some d) : ∃ l, Rs W a len cap l ∧ cap * 32 ≤ 140737488351232 := by
  obtain ⟨fuel, hf⟩ := h
  have e5 : Tryz.prog.cellsOf 52 = 3 := by kernel_rfl
  have e32 : Tryz.prog.bytesOf 52 = 32 := by kernel_rfl
  rcases open_slice Tryz.underlying25 hf with ⟨hcs, hz⟩ | ⟨y, l, cc, m, n, D, Pl, hcs, hx, hl, hm, hmm, hz, hel⟩
  · simp [Value.cells] at hcs
    obtain ⟨rfl, rfl, rfl⟩ := hcs
    exact ⟨[], rs_nil _, by omega⟩
  · simp [Value.cells] at hcs
    obtain ⟨rfl, rfl, rfl⟩ := hcs
    simp only [if_true] at hmm
    subst hmm
    simp only [Prod.mk.injEq] at hz
    obtain ⟨rfl, _⟩ := hz
    have hreach : m * 32 ≤ 140737488351232 := by
      have := sized_slice hsz (e := 52) hj hd Tryz.underlying25
      rw [e32] at this
      simp only [List.length_map, List.length_range, reachBytes] at this
      rw [show len + (m - len) = m by omega] at this
      exact this
    obtain ⟨b, off, spot⟩ := y
    rw [e5] at hel
    by_cases hpos : 0 < len
    · obtain rfl : spot = none := by
        obtain ⟨cs', h1, _⟩ := hel 0 (by omega)
        exact cells_spotR h1 (by omega)
      have hall : ∀ i, i < len → ∃ s : Rt, R3 W b (off + i * 3) s ∧ RgR s := by
        intro i hi
        obtain ⟨cs', h1, h2⟩ := hel i (by omega)
        obtain ⟨s, rfl, hr⟩ := open_root h2
        obtain ⟨_, _, h3⟩ := World.cells?_some h1
        refine ⟨s, R3.of fun j u hu => ?_, hr⟩
        have h4 := h3 j (List.getElem?_eq_some_iff.1 hu).1
        rw [hu, Addr.add_lit, Addr.add_lit] at h4
        exact h4
      obtain ⟨DD, hDD⟩ := choose_lt hall
      have hb : b < W.heap.size := World.block_lt_of_cell? W _ (hDD 0 hpos).1.c0
      refine ⟨(List.range len).map DD, ⟨by simp, hl, (by intro h; cases h), fun _ => ⟨b, off, rfl, hb, fun i hi => ?_⟩, fun s hs => ?_⟩, hreach⟩
      · have : ra ((List.range len).map DD) i = DD i := by simp [ra, List.getD, hi]
        rw [this]
        exact (hDD i hi).1
      · simp only [List.mem_map, List.mem_range] at hs
        obtain ⟨i, hi, rfl⟩ := hs
        exact (hDD i hi).2
    · obtain rfl : len = 0 := by omega
      exact ⟨[], ⟨rfl, hl, (by intro h; cases h), fun h => absurd h (by omega), fun s hs => by cases hs⟩, hreach⟩
end
end Go.Proofs.YtpbljjbhfhfmgaaGreatDoor
