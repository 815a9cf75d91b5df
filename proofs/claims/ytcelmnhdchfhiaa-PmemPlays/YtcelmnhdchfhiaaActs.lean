/- A slice of acts that came in, opened: each act's numbers, its bytes and its truths can be read. -/
import Derived.Test.YtcelmnhdchfhiaaOpen
import Derived.Test.YtcelmnhdchfhiaaCrash
import Derived.Deep.Slices
import Derived.Deep.Grids
namespace Go.Proofs.Ytcelmnhdchfhiaa
open Go.RowKit Go.ChangeShapes Go.WideShapes Go.ChangeAt Go.Deep

structure ActD where
  act : Int
  pos : Int
  num : Int
  ba : Option Addr
  bl : Nat
  bc : Nat
  bz : List Int
  ka : Option Addr
  kl : Nat
  kc : Nat
  kz : List Bool
instance : Inhabited ActD := ⟨⟨0, 0, 0, none, 0, 0, [], none, 0, 0, []⟩⟩
def Rg (n : Int) : Prop := -9223372036854775808 ≤ n ∧ n ≤ 9223372036854775807

/-- What an act's fields are in a world. -/
structure ActOk (W : World) (A : ActD) : Prop where
  r0 : Rg A.act
  r1 : Rg A.pos
  r2 : Rg A.num
  bs : Sl .u8 W A.ba A.bl A.bc A.bz
  by_ : Bytes A.bz
  bm : A.bc ≤ 9223372036854775807
  ks : Slb W A.ka A.kl A.kz
  km : A.kl ≤ 9223372036854775807
structure Act1 (W : World) (b o : Nat) (A : ActD) : Prop where
  c0 : W.cell? ⟨b, o, none⟩ = some (.int .i64 A.act)
  c1 : W.cell? ⟨b, o + 1, none⟩ = some (.int .i64 A.pos)
  c2 : W.cell? ⟨b, o + 2, none⟩ = some (.int .i64 A.num)
  c3 : W.cell? ⟨b, o + 3, none⟩ = some (.slice A.ba A.bl A.bc)
  c4 : W.cell? ⟨b, o + 4, none⟩ = some (.slice A.ka A.kl A.kc)
  ok : ActOk W A
def ActsAt (W : World) (a : Option Addr) (len : Nat) (D : Nat → ActD) : Prop := 0 < len → ∃ b off, a = some ⟨b, off, none⟩ ∧ b < W.heap.size ∧ ∀ i, i < len → Act1 W b (off + 5 * i) (D i)

section
variable {H : Type} {enc : TypeId × Value → H} {W : World} {x : DataW H × List MemPlace} {fuel : Nat} {c : Value}
theorem open_bytes_cell (h : DataW.trod enc Try.prog W 0 (fun _ => true) true fuel 22 [c] = some x) : ∃ a len cap zs, c = .slice a len cap ∧ Sl .u8 W a len cap zs ∧ Bytes zs ∧ cap ≤ 9223372036854775807 := by
  rcases open_ints Try.underlying22 Try.underlying5 (by kernel_rfl) h with ⟨hcs, _⟩ | ⟨y, l, cc, zs, hcs, _, hl, hm, hz, _, hcell, hwz⟩
  · simp only [List.cons.injEq, and_true] at hcs
    exact ⟨none, 0, 0, [], hcs, ⟨rfl, Nat.le_refl _, fun _ => rfl, fun h => absurd h (by omega)⟩, (by intro z hz; cases hz), by omega⟩
  · simp only [List.cons.injEq, and_true] at hcs
    simp only [if_true] at hz
    refine ⟨some y, l, cc, zs.take l, hcs, ⟨by simp; omega, hl, (by intro h; cases h), fun hn => ?_⟩, fun z hz' => bytes_wf hwz z (List.mem_of_mem_take hz'), by simpa [maxLen] using hm⟩
    obtain ⟨b, off, spot⟩ := y
    have hc0 := hcell 0 (by omega)
    have hspot : spot = none := by simpa [Addr.add] using World.cell?_spot hc0
    subst hspot
    refine ⟨b, off, rfl, ?_, fun i hi => ?_⟩
    · have := World.block_lt_of_cell? W _ hc0
      simpa [Addr.add] using this
    · have := hcell i (by omega)
      rw [Addr.add_lit] at this
      rw [this]
      simp [List.getD, hi]
theorem open_bools_cell (h : DataW.trod enc Try.prog W 0 (fun _ => true) true fuel 36 [c] = some x) : ∃ a len cap bs, c = .slice a len cap ∧ Slb W a len bs ∧ len ≤ 9223372036854775807 := by
  rcases open_bools Try.underlying36 Try.underlying4 (by kernel_rfl) h with ⟨hcs, _⟩ | ⟨y, l, cc, B, hcs, _, hl, hm, _, hcell⟩
  · simp only [List.cons.injEq, and_true] at hcs
    exact ⟨none, 0, 0, [], hcs, ⟨rfl, fun h => absurd h (by omega)⟩, by omega⟩
  · simp only [List.cons.injEq, and_true] at hcs
    have hm' : cc ≤ 9223372036854775807 := by simpa [maxLen] using hm
    refine ⟨some y, l, cc, (List.range l).map B, hcs, ⟨by simp, fun hn => ?_⟩, by omega⟩
    obtain ⟨b, off, spot⟩ := y
    have hc0 := hcell 0 (by omega)
    have hspot : spot = none := by simpa [Addr.add] using World.cell?_spot hc0
    subst hspot
    refine ⟨b, off, rfl, ?_, fun i hi => ?_⟩
    · have := World.block_lt_of_cell? W _ hc0
      simpa [Addr.add] using this
    · have := hcell i (by omega)
      rw [Addr.add_lit] at this
      rw [this]
      simp [List.getD, hi]

theorem open_act {cs : List Value} (h : DataW.trod enc Try.prog W 0 (fun _ => true) true fuel 38 cs = some x) : ∃ A : ActD, cs = [.int .i64 A.act, .int .i64 A.pos, .int .i64 A.num, .slice A.ba A.bl A.bc, .slice A.ka A.kl A.kc] ∧ ActOk W A := by
  obtain ⟨xs, n, _, _, hl, hlen, hf⟩ := DataW.trod_struct Try.underlying38 h
  have e5 : Try.prog.cellsOf 38 = 5 := by kernel_rfl
  have e3 : Try.prog.cellsOf 3 = 1 := by kernel_rfl
  have e22 : Try.prog.cellsOf 22 = 1 := by kernel_rfl
  have e36 : Try.prog.cellsOf 36 = 1 := by kernel_rfl
  rw [e5] at hl
  match cs, hl, xs, hlen with
  | [c0, c1, c2, c3, c4], _, [y0, y1, y2, y3, y4], _ =>
    have h0 : DataW.trod enc Try.prog W 0 (fun _ => true) true n 3 (([c0, c1, c2, c3, c4].drop 0).take (Try.prog.cellsOf 3)) = some y0 := hf 0 _ rfl
    have h1 : DataW.trod enc Try.prog W 0 (fun _ => true) true n 3 (([c0, c1, c2, c3, c4].drop 1).take (Try.prog.cellsOf 3)) = some y1 := hf 1 _ rfl
    have h2 : DataW.trod enc Try.prog W 0 (fun _ => true) true n 3 (([c0, c1, c2, c3, c4].drop 2).take (Try.prog.cellsOf 3)) = some y2 := hf 2 _ rfl
    have h3 : DataW.trod enc Try.prog W 0 (fun _ => true) true n 22 (([c0, c1, c2, c3, c4].drop 3).take (Try.prog.cellsOf 22)) = some y3 := hf 3 _ rfl
    have h4 : DataW.trod enc Try.prog W 0 (fun _ => true) true n 36 (([c0, c1, c2, c3, c4].drop 4).take (Try.prog.cellsOf 36)) = some y4 := hf 4 _ rfl
    rw [e3] at h0 h1 h2
    rw [e22] at h3
    rw [e36] at h4
    obtain ⟨a0, f0, _, w0⟩ := DataW.trod_int Try.underlying3 h0
    obtain ⟨a1, f1, _, w1⟩ := DataW.trod_int Try.underlying3 h1
    obtain ⟨a2, f2, _, w2⟩ := DataW.trod_int Try.underlying3 h2
    obtain ⟨ba, bl, bc, bz, f3, g3, g4, g5⟩ := open_bytes_cell (c := c3) h3
    obtain ⟨ka, kl, kc, kz, f4, g6, g7⟩ := open_bools_cell (c := c4) h4
    simp at f0 f1 f2
    subst f0 f1 f2 f3 f4
    exact ⟨⟨a0, a1, a2, ba, bl, bc, bz, ka, kl, kc, kz⟩, rfl, ⟨bounds_i64 w0, bounds_i64 w1, bounds_i64 w2, g3, g4, g5, g6, g7⟩⟩

theorem open_acts {a : Option Addr} {len cap : Nat} {d : DataW H} {p : List MemPlace} (h : DataW.Trod enc Try.prog W 0 (fun _ => true) true 23 (.slice a len cap) d p) : len ≤ 9223372036854775807 ∧ ∃ D, ActsAt W a len D := by
  obtain ⟨fuel, hf⟩ := h
  have e5 : Try.prog.cellsOf 38 = 5 := by kernel_rfl
  rcases open_slice Try.underlying23 hf with ⟨hcs, _⟩ | ⟨y, l, cc, m, n, D, Pl, hcs, _, hl, hm, hmm, _, hel⟩
  · simp [Value.cells] at hcs
    obtain ⟨rfl, rfl, rfl⟩ := hcs
    exact ⟨by omega, default, fun h => absurd h (by omega)⟩
  · simp [Value.cells] at hcs
    obtain ⟨rfl, rfl, rfl⟩ := hcs
    simp only [if_true] at hmm
    have hm' : cap ≤ 9223372036854775807 := by simpa [maxLen] using hm
    refine ⟨by omega, ?_⟩
    obtain ⟨b, off, spot⟩ := y
    by_cases hpos : 0 < len
    · have hsp : spot = none := by
        obtain ⟨cs', h1, _⟩ := hel 0 (by omega)
        obtain ⟨_, h2, h3⟩ := World.cells?_some h1
        rw [e5] at h2 h3
        have h4 := h3 0 (by omega)
        rw [List.getElem?_eq_getElem (by omega)] at h4
        simpa [Addr.add] using World.cell?_spot h4
      subst hsp
      have hall : ∀ i, i < len → ∃ A, Act1 W b (off + 5 * i) A := by
        intro i hi
        obtain ⟨cs', h1, h2⟩ := hel i (by omega)
        obtain ⟨A, rfl, hok⟩ := open_act h2
        obtain ⟨_, _, h3⟩ := World.cells?_some h1
        rw [e5] at h3
        have cell : ∀ j v, j < 5 → [Value.int .i64 A.act, .int .i64 A.pos, .int .i64 A.num, .slice A.ba A.bl A.bc, .slice A.ka A.kl A.kc][j]? = some v → W.cell? ⟨b, off + 5 * i + j, none⟩ = some v := by
          intro j v hj hv
          have h4 := h3 j hj
          rw [hv, Addr.add_lit, Addr.add_lit, Nat.mul_comm i 5] at h4
          exact h4
        exact ⟨A, cell 0 _ (by omega) rfl, cell 1 _ (by omega) rfl, cell 2 _ (by omega) rfl, cell 3 _ (by omega) rfl, cell 4 _ (by omega) rfl, hok⟩
      obtain ⟨DD, hDD⟩ := choose_lt hall
      have hb : b < W.heap.size := by
        have := World.block_lt_of_cell? W _ (hDD 0 hpos).c0
        exact this
      exact ⟨DD, fun _ => ⟨b, off, rfl, hb, hDD⟩⟩
    · exact ⟨default, fun h => absurd h hpos⟩
end
end Go.Proofs.Ytcelmnhdchfhiaa
