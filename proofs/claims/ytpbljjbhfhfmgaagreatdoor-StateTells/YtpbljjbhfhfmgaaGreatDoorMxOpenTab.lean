/- OpenTab: these texts, one behind another. -/
import Derived.Test.YtpbljjbhfhfmgaaGreatDoorMxTabA
import Derived.Test.YtpbljjbhfhfmgaaGreatDoorMxOpen
import Derived.Deep.Slices
import Derived.Deep.Grids
/- A slice of slots that came in, opened: each one can be read; its room is within the reach. A slot by value. -/
namespace Go.Proofs.YtpbljjbhfhfmgaaGreatDoor
set_option maxRecDepth 100000
open Go.RowKit Go.ChangeShapes Go.WideShapes Go.ChangeAt Go.Deep
set_option linter.unusedVariables false

section
variable {H : Type} {enc : TypeId × Value → H} {W : World} {x : DataW H × List MemPlace} {fuel : Nat} {c : Value}
theorem open_slot {cs : List Value} (h : DataW.trod enc Tryz.prog W 0 (fun _ => true) true fuel 55 cs = some x) : ∃ s : Slt, cs = s.cells ∧ RgS s := by
  obtain ⟨xs, n, _, _, hl, hlen, hf⟩ := DataW.trod_struct Tryz.underlying55 h
  have e5 : Tryz.prog.cellsOf 55 = 5 := by kernel_rfl
  have e3 : Tryz.prog.cellsOf 3 = 1 := by kernel_rfl
  have e4 : Tryz.prog.cellsOf 4 = 1 := by kernel_rfl
  rw [e5] at hl
  match cs, hl, xs, hlen with
  | [c0, c1, c2, c3, c4], _, [y0, y1, y2, y3, y4], _ =>
    have h0 : DataW.trod enc Tryz.prog W 0 (fun _ => true) true n 3 (([c0, c1, c2, c3, c4].drop 0).take (Tryz.prog.cellsOf 3)) = some y0 := hf 0 _ rfl
    have h1 : DataW.trod enc Tryz.prog W 0 (fun _ => true) true n 4 (([c0, c1, c2, c3, c4].drop 1).take (Tryz.prog.cellsOf 4)) = some y1 := hf 1 _ rfl
    have h2 : DataW.trod enc Tryz.prog W 0 (fun _ => true) true n 4 (([c0, c1, c2, c3, c4].drop 2).take (Tryz.prog.cellsOf 4)) = some y2 := hf 2 _ rfl
    have h3 : DataW.trod enc Tryz.prog W 0 (fun _ => true) true n 3 (([c0, c1, c2, c3, c4].drop 3).take (Tryz.prog.cellsOf 3)) = some y3 := hf 3 _ rfl
    have h4 : DataW.trod enc Tryz.prog W 0 (fun _ => true) true n 3 (([c0, c1, c2, c3, c4].drop 4).take (Tryz.prog.cellsOf 3)) = some y4 := hf 4 _ rfl
    rw [e3] at h0 h3 h4
    rw [e4] at h1 h2
    obtain ⟨a0, f0, _, w0⟩ := DataW.trod_int Tryz.underlying3 h0
    obtain ⟨a1, f1, _⟩ := DataW.trod_bool Tryz.underlying4 h1
    obtain ⟨a2, f2, _⟩ := DataW.trod_bool Tryz.underlying4 h2
    obtain ⟨a3, f3, _, w3⟩ := DataW.trod_int Tryz.underlying3 h3
    obtain ⟨a4, f4, _, w4⟩ := DataW.trod_int Tryz.underlying3 h4
    simp at f0 f1 f2 f3 f4
    subst f0 f1 f2 f3 f4
    exact ⟨⟨a0, a1, a2, a3, a4⟩, rfl, ⟨bounds_i64 w0, bounds_i64 w3, bounds_i64 w4⟩⟩
/-- A slot by value. -/
theorem open_slotv {r : Reach} {b0 : Nat} {v : Value} {d : DataW H} {p : List MemPlace} (hv : Value.okWide Tryz.prog W r b0 55 v) (h : DataW.Trod enc Tryz.prog W 0 (fun _ => true) true 55 v d p) : ∃ s : Slt, v = .agg #[.int .i64 s.gen, .bool s.live, .bool s.two, .int .i64 s.pos, .int .i64 s.len] ∧ RgS s := by
  obtain ⟨cs, rfl, hsz⟩ := okWide_struct Tryz.underlying55 hv
  obtain ⟨fuel, hf⟩ := h
  have hf' : DataW.trod enc Tryz.prog W 0 (fun _ => true) true fuel 55 cs.toList = some (d, p) := hf
  obtain ⟨s, hs, hr⟩ := open_slot hf'
  refine ⟨s, ?_, hr⟩
  congr 1
  apply Array.ext'
  rw [hs]
  rfl
theorem cells_spot {W : World} {b off k : Nat} {spot : _} {n : Nat} {cs : List Value} (h : W.cells? 0 ((⟨b, off, spot⟩ : Addr).add (0 * k)) n = some cs) (hn : 0 < n) : spot = none := by
  obtain ⟨_, h2, h3⟩ := World.cells?_some h
  have h4 := h3 0 (by omega)
  rw [List.getElem?_eq_getElem (by omega)] at h4
  simpa [Addr.add] using World.cell?_spot h4
theorem open_slots {a : Option Addr} {len cap : Nat} {d : DataW H} {p : List MemPlace} {ts : List TypeId} {ds : List (DataW H)} {j : Nat} (h : DataW.Trod enc Tryz.prog W 0 (fun _ => true) true 24 (.slice a len cap) d p) (hsz : (DataW.weightsEach Tryz.prog ts ds).all (· ≤ reachBytes) = true) (hj : ts[j]? = some 24) (hd : ds[j]? = some d) : ∃ l, Tb W a len cap l ∧ cap * 32 ≤ 140737488351232 := by
  obtain ⟨fuel, hf⟩ := h
  have e5 : Tryz.prog.cellsOf 55 = 5 := by kernel_rfl
  have e32 : Tryz.prog.bytesOf 55 = 32 := by kernel_rfl
  rcases open_slice Tryz.underlying24 hf with ⟨hcs, hz⟩ | ⟨y, l, cc, m, n, D, Pl, hcs, hx, hl, hm, hmm, hz, hel⟩
  · simp [Value.cells] at hcs
    obtain ⟨rfl, rfl, rfl⟩ := hcs
    exact ⟨[], tb_nil _, by omega⟩
  · simp [Value.cells] at hcs
    obtain ⟨rfl, rfl, rfl⟩ := hcs
    simp only [if_true] at hmm
    subst hmm
    simp only [Prod.mk.injEq] at hz
    obtain ⟨rfl, _⟩ := hz
    have hreach : m * 32 ≤ 140737488351232 := by
      have := sized_slice hsz (e := 55) hj hd Tryz.underlying24
      rw [e32] at this
      simp only [List.length_map, List.length_range, reachBytes] at this
      rw [show len + (m - len) = m by omega] at this
      exact this
    obtain ⟨b, off, spot⟩ := y
    rw [e5] at hel
    by_cases hpos : 0 < len
    · obtain rfl : spot = none := by
        obtain ⟨cs', h1, _⟩ := hel 0 (by omega)
        exact cells_spot h1 (by omega)
      have hall : ∀ i, i < len → ∃ s : Slt, S5 W b (off + i * 5) s ∧ RgS s := by
        intro i hi
        obtain ⟨cs', h1, h2⟩ := hel i (by omega)
        obtain ⟨s, rfl, hr⟩ := open_slot h2
        obtain ⟨_, _, h3⟩ := World.cells?_some h1
        refine ⟨s, S5.of fun j u hu => ?_, hr⟩
        have h4 := h3 j (List.getElem?_eq_some_iff.1 hu).1
        rw [hu, Addr.add_lit, Addr.add_lit] at h4
        exact h4
      obtain ⟨DD, hDD⟩ := choose_lt hall
      have hb : b < W.heap.size := World.block_lt_of_cell? W _ (hDD 0 hpos).1.c0
      refine ⟨(List.range len).map DD, ⟨by simp, hl, (by intro h; cases h), fun _ => ⟨b, off, rfl, hb, fun i hi => ?_⟩, fun s hs => ?_⟩, hreach⟩
      · have : sg ((List.range len).map DD) i = DD i := by simp [sg, List.getD, hi]
        rw [this]
        exact (hDD i hi).1
      · simp only [List.mem_map, List.mem_range] at hs
        obtain ⟨i, hi, rfl⟩ := hs
        exact (hDD i hi).2
    · obtain rfl : len = 0 := by omega
      exact ⟨[], ⟨rfl, hl, (by intro h; cases h), fun h => absurd h (by omega), fun s hs => by cases hs⟩, hreach⟩
end
end Go.Proofs.YtpbljjbhfhfmgaaGreatDoor
