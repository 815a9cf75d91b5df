/- OpenRow: these texts, one behind another. -/
import Derived.Test.YtpbljjbhfhfmgaaGreatDoorMxOff
import Derived.Test.YtpbljjbhfhfmgaaGreatDoorMxInfo
import Derived.Test.YtpbljjbhfhfmgaaGreatDoorMxOpen
import Derived.Deep.Slices
import Derived.Deep.Grids
/- Rows of bytes that came in, opened: each one can be read. -/
namespace Go.Proofs.YtpbljjbhfhfmgaaGreatDoor
set_option maxRecDepth 100000
open Go.RowKit Go.ChangeShapes Go.WideShapes Go.ChangeAt Go.Deep
set_option linter.unusedVariables false

section
variable {H : Type} {enc : TypeId × Value → H} {W : World} {x : DataW H × List MemPlace} {fuel : Nat} {c : Value}
theorem cellsB_spot {W : World} {b off k : Nat} {spot : _} {n : Nat} {cs : List Value} (h : W.cells? 0 ((⟨b, off, spot⟩ : Addr).add (0 * k)) n = some cs) (hn : 0 < n) : spot = none := by
  obtain ⟨_, h2, h3⟩ := World.cells?_some h
  have h4 := h3 0 (by omega)
  rw [List.getElem?_eq_getElem (by omega)] at h4
  simpa [Addr.add] using World.cell?_spot h4
theorem open_bytesT (h : DataW.trod enc Tryz.prog W 0 (fun _ => true) true fuel 48 [c] = some x) : ∃ a len cap zs, c = .slice a len cap ∧ Sl .u8 W a len cap zs ∧ Bytes zs ∧ cap ≤ 9223372036854775807 := by
  rcases open_ints Tryz.underlying48 Tryz.underlying5 (by kernel_rfl) h with ⟨hcs, _⟩ | ⟨y, l, cc, zs, hcs, _, hl, hm, hz, _, hcell, hwz⟩
  · simp only [List.cons.injEq, and_true] at hcs
    exact ⟨none, 0, 0, [], hcs, ⟨rfl, Nat.le_refl _, fun _ => rfl, fun h => absurd h (by omega)⟩, (by intro z hz; cases hz), by omega⟩
  · simp only [List.cons.injEq, and_true] at hcs
    simp only [if_true] at hz
    refine ⟨some y, l, cc, zs.take l, hcs, ⟨by simp; omega, hl, (by intro h; cases h), fun hn => ?_⟩, fun z hz' => bytes_wf hwz z (List.mem_of_mem_take hz'), by simpa [maxLen] using hm⟩
    obtain ⟨b, off, spot⟩ := y
    have hc0 := hcell 0 (by omega)
    have hspot : spot = none := by simpa [Addr.add] using World.cell?_spot hc0
    subst hspot
    refine ⟨b, off, rfl, ?_, fun i hi => ?_⟩
    · have := World.block_lt_of_cell? W _ hc0
      simpa [Addr.add] using this
    · have := hcell i (by omega)
      rw [Addr.add_lit] at this
      rw [this]
      simp [List.getD, hi]
theorem open_rowsT {a : Option Addr} {len cap : Nat} {d : DataW H} {p : List MemPlace} (h : DataW.Trod enc Tryz.prog W 0 (fun _ => true) true 26 (.slice a len cap) d p) : ∃ A N C ds, Rd W a len cap A N C ds ∧ cap ≤ 9223372036854775807 := by
  obtain ⟨fuel, hf⟩ := h
  have e1 : Tryz.prog.cellsOf 48 = 1 := by kernel_rfl
  rcases open_slice Tryz.underlying26 hf with ⟨hcs, _⟩ | ⟨y, l, cc, m, n, D, Pl, hcs, _, hl, hm, hmm, _, hel⟩
  · simp [Value.cells] at hcs
    obtain ⟨rfl, rfl, rfl⟩ := hcs
    exact ⟨fun _ => none, fun _ => 0, fun _ => 0, [], rd_nil _ _ _ _, by omega⟩
  · simp [Value.cells] at hcs
    obtain ⟨rfl, rfl, rfl⟩ := hcs
    simp only [if_true] at hmm
    have hm' : cap ≤ 9223372036854775807 := by simpa [maxLen] using hm
    obtain ⟨b, off, spot⟩ := y
    rw [e1] at hel
    by_cases hpos : 0 < len
    · obtain rfl : spot = none := by
        obtain ⟨cs', h1, _⟩ := hel 0 (by omega)
        exact cellsB_spot h1 (by omega)
      have hall : ∀ i, i < len → ∃ r : Option Addr × Nat × Nat × List Int, W.cell? ⟨b, off + i, none⟩ = some (.slice r.1 r.2.1 r.2.2.1) ∧ Sl .u8 W r.1 r.2.1 r.2.2.1 r.2.2.2 ∧ Bytes r.2.2.2 ∧ r.2.2.1 ≤ 9223372036854775807 := by
        intro i hi
        obtain ⟨cs', h1, h2⟩ := hel i (by omega)
        obtain ⟨_, h3, h4⟩ := World.cells?_some h1
        match cs', h3 with
        | [c], _ =>
          obtain ⟨ra, rn, rc, rz, rfl, k1, k2, k3⟩ := open_bytesT h2
          have h5 := h4 0 (by omega)
          refine ⟨(ra, rn, rc, rz), ?_, k1, k2, k3⟩
          simpa [Addr.add_lit] using h5
      obtain ⟨DD, hDD⟩ := choose_lt hall
      have hb : b < W.heap.size := World.block_lt_of_cell? W _ (hDD 0 hpos).1
      have hda : ∀ i, i < len → da ((List.range len).map fun i => (DD i).2.2.2) i = (DD i).2.2.2 := fun i hi => by simp [da, List.getD, hi]
      exact ⟨fun i => (DD i).1, fun i => (DD i).2.1, fun i => (DD i).2.2.1, (List.range len).map fun i => (DD i).2.2.2, ⟨by simp, hl, (by intro h; cases h), fun _ => ⟨b, off, rfl, hb, fun i hi => (hDD i hi).1⟩, fun i hi => by rw [hda i hi]; exact (hDD i hi).2.1, fun i hi => by rw [hda i hi]; exact (hDD i hi).2.2.1, fun i hi => (hDD i hi).2.2.2⟩, hm'⟩
    · obtain rfl : len = 0 := by omega
      exact ⟨fun _ => none, fun _ => 0, fun _ => 0, [], ⟨rfl, hl, (by intro h; cases h), fun h => absurd h (by omega), fun i h => absurd h (by omega), fun i h => absurd h (by omega), fun i h => absurd h (by omega)⟩, hm'⟩
end
end Go.Proofs.YtpbljjbhfhfmgaaGreatDoor
