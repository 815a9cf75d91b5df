/- OpenChg · OpenPlay: these texts, one behind another. -/
import Derived.Test.YtgiippbjieecmaaGreatChg
import Derived.Test.YtgiippbjieecmaaGreatOpen
import Derived.Deep.Slices
import Derived.Deep.Grids
import Derived.Test.YtgiippbjieecmaaGreatMgB
import Derived.Test.YtgiippbjieecmaaGreatMgM
/- A slice of changes that came in, opened: each one's line and bytes can be read. -/
namespace Go.Proofs.YtgiippbjieecmaaGreat
set_option maxRecDepth 100000
open Go.RowKit Go.ChangeShapes Go.WideShapes Go.ChangeAt Go.Deep
set_option linter.unusedVariables false

section
variable {H : Type} {enc : TypeId × Value → H} {W : World} {x : DataW H × List MemPlace} {fuel : Nat} {c : Value}
theorem open_bytes_in (h : DataW.trod enc Tryz.prog W 0 (fun _ => true) true fuel 22 [c] = some x) : ∃ a len cap zs, c = .slice a len cap ∧ Sl .u8 W a len cap zs ∧ Bytes zs ∧ cap ≤ 9223372036854775807 := by
  rcases open_ints Tryz.underlying22 Tryz.underlying5 (by kernel_rfl) h with ⟨hcs, _⟩ | ⟨y, l, cc, zs, hcs, _, hl, hm, hz, _, hcell, hwz⟩
  · simp only [List.cons.injEq, and_true] at hcs
    exact ⟨none, 0, 0, [], hcs, ⟨rfl, Nat.le_refl _, fun _ => rfl, fun h => absurd h (by omega)⟩, (by intro z hz; cases hz), by omega⟩
  · simp only [List.cons.injEq, and_true] at hcs
    simp only [if_true] at hz
    refine ⟨some y, l, cc, zs.take l, hcs, ⟨by simp; omega, hl, (by intro h; cases h), fun hn => ?_⟩, fun z hz' => bytes_wf hwz z (List.mem_of_mem_take hz'), by simpa [maxLen] using hm⟩
    obtain ⟨b, off, spot⟩ := y
    have hc0 := hcell 0 (by omega)
    have hspot : spot = none := by simpa [Addr.add] using World.cell?_spot hc0
    subst hspot
    refine ⟨b, off, rfl, ?_, fun i hi => ?_⟩
    · have := World.block_lt_of_cell? W _ hc0
      simpa [Addr.add] using this
    · have := hcell i (by omega)
      rw [Addr.add_lit] at this
      rw [this]
      simp [List.getD, hi]
theorem open_chg {cs : List Value} (h : DataW.trod enc Tryz.prog W 0 (fun _ => true) true fuel 49 cs = some x) : ∃ A : ChD, cs = [.int .i64 A.line, .slice A.ba A.bl A.bc] ∧ ChOk W A := by
  obtain ⟨xs, n, _, _, hl, hlen, hf⟩ := DataW.trod_struct Tryz.underlying49 h
  have e5 : Tryz.prog.cellsOf 49 = 2 := by kernel_rfl
  have e3 : Tryz.prog.cellsOf 3 = 1 := by kernel_rfl
  have e22 : Tryz.prog.cellsOf 22 = 1 := by kernel_rfl
  rw [e5] at hl
  match cs, hl, xs, hlen with
  | [c0, c1], _, [y0, y1], _ =>
    have h0 : DataW.trod enc Tryz.prog W 0 (fun _ => true) true n 3 (([c0, c1].drop 0).take (Tryz.prog.cellsOf 3)) = some y0 := hf 0 _ rfl
    have h1 : DataW.trod enc Tryz.prog W 0 (fun _ => true) true n 22 (([c0, c1].drop 1).take (Tryz.prog.cellsOf 22)) = some y1 := hf 1 _ rfl
    rw [e3] at h0
    rw [e22] at h1
    obtain ⟨a0, f0, _, w0⟩ := DataW.trod_int Tryz.underlying3 h0
    obtain ⟨ba, bl, bc, bz, f3, g3, g4, g5⟩ := open_bytes_in (c := c1) h1
    simp at f0
    subst f0 f3
    exact ⟨⟨a0, ba, bl, bc, bz⟩, rfl, ⟨bounds_i64 w0, g3, g4, g5⟩⟩
theorem open_chgs {a : Option Addr} {len cap : Nat} {d : DataW H} {p : List MemPlace} (h : DataW.Trod enc Tryz.prog W 0 (fun _ => true) true 34 (.slice a len cap) d p) : (a = none → cap = 0 ∧ len = 0) ∧ ∃ D, Chs W a len D := by
  obtain ⟨fuel, hf⟩ := h
  have e5 : Tryz.prog.cellsOf 49 = 2 := by kernel_rfl
  rcases open_slice Tryz.underlying34 hf with ⟨hcs, _⟩ | ⟨y, l, cc, m, n, D, Pl, hcs, _, hl, hm, hmm, _, hel⟩
  · simp [Value.cells] at hcs
    obtain ⟨rfl, rfl, rfl⟩ := hcs
    exact ⟨fun _ => ⟨rfl, rfl⟩, default, by omega, fun h => absurd h (by omega), fun i hi => absurd hi (by omega)⟩
  · simp [Value.cells] at hcs
    obtain ⟨rfl, rfl, rfl⟩ := hcs
    simp only [if_true] at hmm
    have hm' : cap ≤ 9223372036854775807 := by simpa [maxLen] using hm
    refine ⟨(by intro h; cases h), ?_⟩
    obtain ⟨b, off, spot⟩ := y
    by_cases hpos : 0 < len
    · have hsp : spot = none := by
        obtain ⟨cs', h1, _⟩ := hel 0 (by omega)
        obtain ⟨_, h2, h3⟩ := World.cells?_some h1
        rw [e5] at h2 h3
        have h4 := h3 0 (by omega)
        rw [List.getElem?_eq_getElem (by omega)] at h4
        simpa [Addr.add] using World.cell?_spot h4
      subst hsp
      have hall : ∀ i, i < len → ∃ A, (W.cell? ⟨b, off + i * 2, none⟩ = some (.int .i64 A.line) ∧ W.cell? ⟨b, off + i * 2 + 1, none⟩ = some (.slice A.ba A.bl A.bc)) ∧ ChOk W A := by
        intro i hi
        obtain ⟨cs', h1, h2⟩ := hel i (by omega)
        obtain ⟨A, rfl, hok⟩ := open_chg h2
        obtain ⟨_, _, h3⟩ := World.cells?_some h1
        rw [e5] at h3
        have cell : ∀ j v, j < 2 → [Value.int .i64 A.line, .slice A.ba A.bl A.bc][j]? = some v → W.cell? ⟨b, off + i * 2 + j, none⟩ = some v := by
          intro j v hj hv
          have h4 := h3 j hj
          rw [hv, Addr.add_lit, Addr.add_lit] at h4
          exact h4
        exact ⟨A, ⟨cell 0 _ (by omega) rfl, cell 1 _ (by omega) rfl⟩, hok⟩
      obtain ⟨DD, hDD⟩ := choose_lt hall
      have hb : b < W.heap.size := by
        have := World.block_lt_of_cell? W _ (hDD 0 hpos).1.1
        exact this
      exact ⟨DD, by omega, fun _ => ⟨b, off, rfl, hb, fun i hi => (hDD i hi).1⟩, fun i hi => (hDD i hi).2⟩
    · exact ⟨default, by omega, fun h => absurd h hpos, fun i hi => absurd hi (by omega)⟩
end
end Go.Proofs.YtgiippbjieecmaaGreat
/- Acts that came in, opened: each one's numbers, changes and truths can be read. -/
namespace Go.Proofs.YtgiippbjieecmaaGreat
set_option maxRecDepth 100000
open Go.RowKit Go.ChangeShapes Go.WideShapes Go.ChangeAt Go.Deep
set_option linter.unusedVariables false

structure PlayD where
  act : Int
  n : Int
  lo : Option Addr
  m : Nat
  lc : Nat
  D : Nat → ChD
  ka : Option Addr
  kl : Nat
  kc : Nat
  kz : List Bool
instance : Inhabited PlayD := ⟨⟨0, 0, none, 0, 0, default, none, 0, 0, []⟩⟩
structure PlayOk (W : World) (A : PlayD) : Prop where
  a : Rg A.act
  n : Rg A.n
  ch : Chs W A.lo A.m A.D
  k : Slb W A.ka A.kl A.kz
  k9 : A.kl ≤ 9223372036854775807
structure PlayC (W : World) (b o : Nat) (A : PlayD) : Prop where
  c0 : W.cell? ⟨b, o, none⟩ = some (.int .i64 A.act)
  c1 : W.cell? ⟨b, o + 1, none⟩ = some (.int .i64 A.n)
  c2 : W.cell? ⟨b, o + 2, none⟩ = some (.slice A.lo A.m A.lc)
  c3 : W.cell? ⟨b, o + 3, none⟩ = some (.slice A.ka A.kl A.kc)
structure Plays (W : World) (a : Option Addr) (len : Nat) (E : Nat → PlayD) : Prop where
  m : len ≤ 9223372036854775807
  here : 0 < len → ∃ b off, a = some ⟨b, off, none⟩ ∧ b < W.heap.size ∧ ∀ i, i < len → PlayC W b (off + i * 4) (E i)
  each : ∀ i, i < len → PlayOk W (E i)

section
variable {H : Type} {enc : TypeId × Value → H} {W : World} {x : DataW H × List MemPlace} {fuel : Nat} {c : Value}
theorem open_flags (h : DataW.trod enc Tryz.prog W 0 (fun _ => true) true fuel 35 [c] = some x) : ∃ a len cap bs, c = .slice a len cap ∧ Slb W a len bs ∧ len ≤ 9223372036854775807 := by
  rcases open_bools Tryz.underlying35 Tryz.underlying4 (by kernel_rfl) h with ⟨hcs, _⟩ | ⟨y, l, cc, B, hcs, _, hl, hm, _, hcell⟩
  · simp only [List.cons.injEq, and_true] at hcs
    exact ⟨none, 0, 0, [], hcs, ⟨rfl, fun h => absurd h (by omega)⟩, by omega⟩
  · simp only [List.cons.injEq, and_true] at hcs
    have hm' : cc ≤ 9223372036854775807 := by simpa [maxLen] using hm
    refine ⟨some y, l, cc, (List.range l).map B, hcs, ⟨by simp, fun hn => ?_⟩, by omega⟩
    obtain ⟨b, off, spot⟩ := y
    have hc0 := hcell 0 (by omega)
    have hspot : spot = none := by simpa [Addr.add] using World.cell?_spot hc0
    subst hspot
    refine ⟨b, off, rfl, ?_, fun i hi => ?_⟩
    · have := World.block_lt_of_cell? W _ hc0
      simpa [Addr.add] using this
    · have := hcell i (by omega)
      rw [Addr.add_lit] at this
      rw [this]
      simp [List.getD, hi]
theorem open_chgs_in (h : DataW.trod enc Tryz.prog W 0 (fun _ => true) true fuel 34 [c] = some x) : ∃ a len cap D, c = .slice a len cap ∧ Chs W a len D := by
  have hs : ∃ a len cap, c = .slice a len cap := by
    rcases open_slice Tryz.underlying34 h with ⟨hcs, _⟩ | ⟨y, l, cc, m, n, D, Pl, hcs, _⟩
    · simp only [List.cons.injEq, and_true] at hcs
      exact ⟨_, _, _, hcs⟩
    · simp only [List.cons.injEq, and_true] at hcs
      exact ⟨_, _, _, hcs⟩
  obtain ⟨a, len, cap, rfl⟩ := hs
  obtain ⟨_, D, hD⟩ := open_chgs (d := x.1) (p := x.2) ⟨fuel, h⟩
  exact ⟨a, len, cap, D, rfl, hD⟩
theorem open_play {cs : List Value} (h : DataW.trod enc Tryz.prog W 0 (fun _ => true) true fuel 37 cs = some x) : ∃ A : PlayD, cs = [.int .i64 A.act, .int .i64 A.n, .slice A.lo A.m A.lc, .slice A.ka A.kl A.kc] ∧ PlayOk W A := by
  obtain ⟨xs, n, _, _, hl, hlen, hf⟩ := DataW.trod_struct Tryz.underlying37 h
  have e5 : Tryz.prog.cellsOf 37 = 4 := by kernel_rfl
  have e3 : Tryz.prog.cellsOf 3 = 1 := by kernel_rfl
  have e22 : Tryz.prog.cellsOf 34 = 1 := by kernel_rfl
  have e36 : Tryz.prog.cellsOf 35 = 1 := by kernel_rfl
  rw [e5] at hl
  match cs, hl, xs, hlen with
  | [c0, c1, c2, c3], _, [y0, y1, y2, y3], _ =>
    have h0 : DataW.trod enc Tryz.prog W 0 (fun _ => true) true n 3 (([c0, c1, c2, c3].drop 0).take (Tryz.prog.cellsOf 3)) = some y0 := hf 0 _ rfl
    have h1 : DataW.trod enc Tryz.prog W 0 (fun _ => true) true n 3 (([c0, c1, c2, c3].drop 1).take (Tryz.prog.cellsOf 3)) = some y1 := hf 1 _ rfl
    have h2 : DataW.trod enc Tryz.prog W 0 (fun _ => true) true n 34 (([c0, c1, c2, c3].drop 2).take (Tryz.prog.cellsOf 34)) = some y2 := hf 2 _ rfl
    have h3 : DataW.trod enc Tryz.prog W 0 (fun _ => true) true n 35 (([c0, c1, c2, c3].drop 3).take (Tryz.prog.cellsOf 35)) = some y3 := hf 3 _ rfl
    rw [e3] at h0 h1
    rw [e22] at h2
    rw [e36] at h3
    obtain ⟨a0, f0, _, w0⟩ := DataW.trod_int Tryz.underlying3 h0
    obtain ⟨a1, f1, _, w1⟩ := DataW.trod_int Tryz.underlying3 h1
    obtain ⟨lo, m, lc, D, f2, g2⟩ := open_chgs_in (c := c2) h2
    obtain ⟨ka, kl, kc, kz, f3, g3, g4⟩ := open_flags (c := c3) h3
    simp at f0 f1
    subst f0 f1 f2 f3
    exact ⟨⟨a0, a1, lo, m, lc, D, ka, kl, kc, kz⟩, rfl, ⟨bounds_i64 w0, bounds_i64 w1, g2, g3, g4⟩⟩
theorem open_plays {a : Option Addr} {len cap : Nat} {d : DataW H} {p : List MemPlace} (h : DataW.Trod enc Tryz.prog W 0 (fun _ => true) true 25 (.slice a len cap) d p) : ∃ E, Plays W a len E := by
  obtain ⟨fuel, hf⟩ := h
  have e5 : Tryz.prog.cellsOf 37 = 4 := by kernel_rfl
  rcases open_slice Tryz.underlying25 hf with ⟨hcs, _⟩ | ⟨y, l, cc, m, n, D, Pl, hcs, _, hl, hm, hmm, _, hel⟩
  · simp [Value.cells] at hcs
    obtain ⟨rfl, rfl, rfl⟩ := hcs
    exact ⟨default, by omega, fun h => absurd h (by omega), fun i hi => absurd hi (by omega)⟩
  · simp [Value.cells] at hcs
    obtain ⟨rfl, rfl, rfl⟩ := hcs
    simp only [if_true] at hmm
    have hm' : cap ≤ 9223372036854775807 := by simpa [maxLen] using hm
    obtain ⟨b, off, spot⟩ := y
    by_cases hpos : 0 < len
    · have hsp : spot = none := by
        obtain ⟨cs', h1, _⟩ := hel 0 (by omega)
        obtain ⟨_, h2, h3⟩ := World.cells?_some h1
        rw [e5] at h2 h3
        have h4 := h3 0 (by omega)
        rw [List.getElem?_eq_getElem (by omega)] at h4
        simpa [Addr.add] using World.cell?_spot h4
      subst hsp
      have hall : ∀ i, i < len → ∃ A : PlayD, PlayC W b (off + i * 4) A ∧ PlayOk W A := by
        intro i hi
        obtain ⟨cs', h1, h2⟩ := hel i (by omega)
        obtain ⟨A, rfl, hok⟩ := open_play h2
        obtain ⟨_, _, h3⟩ := World.cells?_some h1
        rw [e5] at h3
        have cell : ∀ j v, j < 4 → [Value.int .i64 A.act, .int .i64 A.n, .slice A.lo A.m A.lc, .slice A.ka A.kl A.kc][j]? = some v → W.cell? ⟨b, off + i * 4 + j, none⟩ = some v := by
          intro j v hj hv
          have h4 := h3 j hj
          rw [hv, Addr.add_lit, Addr.add_lit] at h4
          exact h4
        exact ⟨A, ⟨cell 0 _ (by omega) rfl, cell 1 _ (by omega) rfl, cell 2 _ (by omega) rfl, cell 3 _ (by omega) rfl⟩, hok⟩
      obtain ⟨DD, hDD⟩ := choose_lt hall
      have hb : b < W.heap.size := by
        have := World.block_lt_of_cell? W _ (hDD 0 hpos).1.c0
        exact this
      exact ⟨DD, by omega, fun _ => ⟨b, off, rfl, hb, fun i hi => (hDD i hi).1⟩, fun i hi => (hDD i hi).2⟩
    · exact ⟨default, by omega, fun h => absurd h hpos, fun i hi => absurd hi (by omega)⟩
end
end Go.Proofs.YtgiippbjieecmaaGreat
