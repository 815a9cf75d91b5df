/- Failures that came in, opened: each one's number and truths can be read. -/
import Derived.Test.YtgiippbjieecmaaMgB
import Derived.Test.YtgiippbjieecmaaRg
import Derived.Test.YtgiippbjieecmaaOpen
import Derived.Deep.Slices
import Derived.Deep.Grids
import Derived.Lib.SmallJoins
namespace Go.Proofs.Ytgiippbjieecmaa
set_option maxRecDepth 100000
open Go.RowKit Go.ChangeShapes Go.WideShapes Go.ChangeAt Go.Deep Go.Joins
set_option linter.unusedVariables false

/-- A failure: which step; which dirty lines are kept. -/
structure FallD where
  n : Int
  ka : Option Addr
  kl : Nat
  kc : Nat
  kz : List Bool
instance : Inhabited FallD := ⟨⟨0, none, 0, 0, []⟩⟩
structure FallOk (W : World) (A : FallD) : Prop where
  n : Rg A.n
  k : Slb W A.ka A.kl A.kz
  k9 : A.kl ≤ 9223372036854775807
structure Falls (W : World) (a : Option Addr) (len : Nat) (D : Nat → FallD) : Prop where
  m : len ≤ 9223372036854775807
  here : 0 < len → ∃ b off, a = some ⟨b, off, none⟩ ∧ b < W.heap.size ∧ ∀ i, i < len → W.cell? ⟨b, off + i * 2, none⟩ = some (.int .i64 (D i).n) ∧ W.cell? ⟨b, off + i * 2 + 1, none⟩ = some (.slice (D i).ka (D i).kl (D i).kc)
  each : ∀ i, i < len → FallOk W (D i)

section
variable {H : Type} {enc : TypeId × Value → H} {W : World} {x : DataW H × List MemPlace} {fuel : Nat} {c : Value}
theorem open_flags (h : DataW.trod enc Try.prog W 0 (fun _ => true) true fuel 42 [c] = some x) : ∃ a len cap bs, c = .slice a len cap ∧ Slb W a len bs ∧ len ≤ 9223372036854775807 := by
  rcases open_bools Try.underlying42 Try.underlying4 (by kernel_rfl) h with ⟨hcs, _⟩ | ⟨y, l, cc, B, hcs, _, hl, hm, _, hcell⟩
  · simp only [List.cons.injEq, and_true] at hcs
    exact ⟨none, 0, 0, [], hcs, ⟨rfl, fun h => absurd h (by omega)⟩, by omega⟩
  · simp only [List.cons.injEq, and_true] at hcs
    have hm' : cc ≤ 9223372036854775807 := by simpa [maxLen] using hm
    refine ⟨some y, l, cc, (List.range l).map B, hcs, ⟨by simp, fun hn => ?_⟩, by omega⟩
    obtain ⟨b, off, spot⟩ := y
    have hc0 := hcell 0 (by omega)
    have hspot : spot = none := by simpa [Addr.add] using World.cell?_spot hc0
    subst hspot
    refine ⟨b, off, rfl, ?_, fun i hi => ?_⟩
    · have := World.block_lt_of_cell? W _ hc0
      simpa [Addr.add] using this
    · have := hcell i (by omega)
      rw [Addr.add_lit] at this
      rw [this]
      simp [List.getD, hi]
theorem open_fall_cells {cs : List Value} (h : DataW.trod enc Try.prog W 0 (fun _ => true) true fuel 44 cs = some x) : ∃ A : FallD, cs = [.int .i64 A.n, .slice A.ka A.kl A.kc] ∧ FallOk W A := by
  obtain ⟨xs, n, _, _, hl, hlen, hf⟩ := DataW.trod_struct Try.underlying44 h
  have e5 : Try.prog.cellsOf 44 = 2 := by kernel_rfl
  have e3 : Try.prog.cellsOf 3 = 1 := by kernel_rfl
  have e22 : Try.prog.cellsOf 42 = 1 := by kernel_rfl
  rw [e5] at hl
  match cs, hl, xs, hlen with
  | [c0, c1], _, [y0, y1], _ =>
    have h0 : DataW.trod enc Try.prog W 0 (fun _ => true) true n 3 (([c0, c1].drop 0).take (Try.prog.cellsOf 3)) = some y0 := hf 0 _ rfl
    have h1 : DataW.trod enc Try.prog W 0 (fun _ => true) true n 42 (([c0, c1].drop 1).take (Try.prog.cellsOf 42)) = some y1 := hf 1 _ rfl
    rw [e3] at h0
    rw [e22] at h1
    obtain ⟨a0, f0, _, w0⟩ := DataW.trod_int Try.underlying3 h0
    obtain ⟨ba, bl, bc, bz, f3, g3, g4⟩ := open_flags (c := c1) h1
    simp at f0
    subst f0 f3
    exact ⟨⟨a0, ba, bl, bc, bz⟩, rfl, ⟨bounds_i64 w0, g3, g4⟩⟩
theorem open_fall {r : Reach} {b0 : Nat} {v : Value} {d : DataW H} {p : List MemPlace} (hv : Value.okWide Try.prog W r b0 44 v) (h : DataW.Trod enc Try.prog W 0 (fun _ => true) true 44 v d p) : ∃ A : FallD, v = .agg #[.int .i64 A.n, .slice A.ka A.kl A.kc] ∧ FallOk W A := by
  obtain ⟨v0, v1, y0, y1, n, rfl, _, _, h0, h1⟩ := open_agg2 Try.underlying44 (by kernel_rfl) (by kernel_rfl) hv h
  obtain ⟨a0, f0, _, w0⟩ := DataW.trod_int Try.underlying3 h0
  obtain ⟨ba, bl, bc, bz, f3, g3, g4⟩ := open_flags (c := v1) h1
  simp at f0
  subst f0 f3
  exact ⟨⟨a0, ba, bl, bc, bz⟩, rfl, ⟨bounds_i64 w0, g3, g4⟩⟩
theorem open_falls {a : Option Addr} {len cap : Nat} {d : DataW H} {p : List MemPlace} (h : DataW.Trod enc Try.prog W 0 (fun _ => true) true 45 (.slice a len cap) d p) : ∃ D, Falls W a len D := by
  obtain ⟨fuel, hf⟩ := h
  have e5 : Try.prog.cellsOf 44 = 2 := by kernel_rfl
  rcases open_slice Try.underlying45 hf with ⟨hcs, _⟩ | ⟨y, l, cc, m, n, D, Pl, hcs, _, hl, hm, hmm, _, hel⟩
  · simp [Value.cells] at hcs
    obtain ⟨rfl, rfl, rfl⟩ := hcs
    exact ⟨default, by omega, fun h => absurd h (by omega), fun i hi => absurd hi (by omega)⟩
  · simp [Value.cells] at hcs
    obtain ⟨rfl, rfl, rfl⟩ := hcs
    simp only [if_true] at hmm
    have hm' : cap ≤ 9223372036854775807 := by simpa [maxLen] using hm
    obtain ⟨b, off, spot⟩ := y
    by_cases hpos : 0 < len
    · have hsp : spot = none := by
        obtain ⟨cs', h1, _⟩ := hel 0 (by omega)
        obtain ⟨_, h2, h3⟩ := World.cells?_some h1
        rw [e5] at h2 h3
        have h4 := h3 0 (by omega)
        rw [List.getElem?_eq_getElem (by omega)] at h4
        simpa [Addr.add] using World.cell?_spot h4
      subst hsp
      have hall : ∀ i, i < len → ∃ A : FallD, (W.cell? ⟨b, off + i * 2, none⟩ = some (.int .i64 A.n) ∧ W.cell? ⟨b, off + i * 2 + 1, none⟩ = some (.slice A.ka A.kl A.kc)) ∧ FallOk W A := by
        intro i hi
        obtain ⟨cs', h1, h2⟩ := hel i (by omega)
        obtain ⟨A, rfl, hok⟩ := open_fall_cells h2
        obtain ⟨_, _, h3⟩ := World.cells?_some h1
        rw [e5] at h3
        have cell : ∀ j v, j < 2 → [Value.int .i64 A.n, .slice A.ka A.kl A.kc][j]? = some v → W.cell? ⟨b, off + i * 2 + j, none⟩ = some v := by
          intro j v hj hv
          have h4 := h3 j hj
          rw [hv, Addr.add_lit, Addr.add_lit] at h4
          exact h4
        exact ⟨A, ⟨cell 0 _ (by omega) rfl, cell 1 _ (by omega) rfl⟩, hok⟩
      obtain ⟨DD, hDD⟩ := choose_lt hall
      have hb : b < W.heap.size := by
        have := World.block_lt_of_cell? W _ (hDD 0 hpos).1.1
        exact this
      exact ⟨DD, by omega, fun _ => ⟨b, off, rfl, hb, fun i hi => (hDD i hi).1⟩, fun i hi => (hDD i hi).2⟩
    · exact ⟨default, by omega, fun h => absurd h hpos, fun i hi => absurd hi (by omega)⟩
end
end Go.Proofs.Ytgiippbjieecmaa
