/- A slice of acts of joistlaw08 that came in, opened. -/
import Derived.Test.YtijfiaggneeibaaOpenTab
namespace Go.Proofs.Ytijfiaggneeibaa
set_option maxRecDepth 100000
open Go.RowKit Go.ChangeShapes Go.WideShapes Go.ChangeAt Go.Deep
set_option linter.unusedVariables false

structure Act8 where
  act : Int
  s : Slt
  k : Int
instance : Inhabited Act8 := ⟨⟨0, Slt.z, 0⟩⟩
structure Act8At (W : World) (b o : Nat) (A : Act8) : Prop where
  c0 : W.cell? ⟨b, o, none⟩ = some (.int .i64 A.act)
  c1 : W.cell? ⟨b, o + 1, none⟩ = some (.int .i64 A.s.gen)
  c2 : W.cell? ⟨b, o + 2, none⟩ = some (.bool A.s.live)
  c3 : W.cell? ⟨b, o + 3, none⟩ = some (.bool A.s.two)
  c4 : W.cell? ⟨b, o + 4, none⟩ = some (.int .i64 A.s.pos)
  c5 : W.cell? ⟨b, o + 5, none⟩ = some (.int .i64 A.s.len)
  c6 : W.cell? ⟨b, o + 6, none⟩ = some (.int .i64 A.k)
structure Acts8 (W : World) (a : Option Addr) (n : Nat) (D : Nat → Act8) : Prop where
  fit : n ≤ 9223372036854775807
  here : 0 < n → ∃ b off, a = some ⟨b, off, none⟩ ∧ b < W.heap.size ∧ ∀ i, i < n → Act8At W b (off + i * 7) (D i)
  rg : ∀ i, i < n → RgS (D i).s
theorem Act8At.below {w w' : World} {b o : Nat} {A : Act8} (h : Act8At w b o A) (hb : Below w.heap.size w w') : Act8At w' b o A := by
  have hlt : b < w.heap.size := World.block_lt_of_cell? w _ h.c0
  have key : ∀ j, w'.cell? ⟨b, j, none⟩ = w.cell? ⟨b, j, none⟩ := fun j => hb.cell (p := ⟨b, j, none⟩) hlt
  exact ⟨(key _).trans h.c0, (key _).trans h.c1, (key _).trans h.c2, (key _).trans h.c3, (key _).trans h.c4, (key _).trans h.c5, (key _).trans h.c6⟩
theorem Acts8.at {w wr : World} {b off n : Nat} {D : Nat → Act8} (h : Acts8 w (some ⟨b, off, none⟩) n D) (hb : Below w.heap.size w wr) {i : Nat} (hi : i < n) : Act8At wr b (off + i * 7) (D i) := by
  obtain ⟨b', o', e, _, hc⟩ := h.here (by omega)
  simp only [Option.some.injEq, Addr.mk.injEq, and_true] at e
  obtain ⟨rfl, rfl⟩ := e
  exact (hc i hi).below hb
section
variable {H : Type} {enc : TypeId × Value → H} {W : World} {x : DataW H × List MemPlace} {fuel : Nat} {c : Value}
def Act8.cells (A : Act8) : List Value := [.int .i64 A.act, .int .i64 A.s.gen, .bool A.s.live, .bool A.s.two, .int .i64 A.s.pos, .int .i64 A.s.len, .int .i64 A.k]
theorem open_act8 {cs : List Value} (h : DataW.trod enc Try.prog W 0 (fun _ => true) true fuel 57 cs = some x) : ∃ A : Act8, cs = A.cells ∧ RgS A.s := by
  obtain ⟨xs, n, _, _, hl, hlen, hf⟩ := DataW.trod_struct Try.underlying57 h
  have e7 : Try.prog.cellsOf 57 = 7 := by kernel_rfl
  have e5 : Try.prog.cellsOf 39 = 5 := by kernel_rfl
  have e3 : Try.prog.cellsOf 3 = 1 := by kernel_rfl
  rw [e7] at hl
  match cs, hl, xs, hlen with
  | [c0, c1, c2, c3, c4, c5, c6], _, [y0, y1, y2], _ =>
    have h0 : DataW.trod enc Try.prog W 0 (fun _ => true) true n 3 (([c0, c1, c2, c3, c4, c5, c6].drop 0).take (Try.prog.cellsOf 3)) = some y0 := hf 0 _ rfl
    have h1 : DataW.trod enc Try.prog W 0 (fun _ => true) true n 39 (([c0, c1, c2, c3, c4, c5, c6].drop 1).take (Try.prog.cellsOf 39)) = some y1 := hf 1 _ rfl
    have h2 : DataW.trod enc Try.prog W 0 (fun _ => true) true n 3 (([c0, c1, c2, c3, c4, c5, c6].drop 6).take (Try.prog.cellsOf 3)) = some y2 := hf 2 _ rfl
    rw [e3] at h0 h2
    rw [e5] at h1
    obtain ⟨a0, f0, _, w0⟩ := DataW.trod_int Try.underlying3 h0
    obtain ⟨s, f1, hr⟩ := open_slot h1
    obtain ⟨a2, f2, _, w2⟩ := DataW.trod_int Try.underlying3 h2
    simp [Slt.cells] at f0 f1 f2
    obtain ⟨rfl, rfl, rfl, rfl, rfl⟩ := f1
    subst f0 f2
    exact ⟨⟨a0, s, a2⟩, rfl, hr⟩
theorem open_acts8 {a : Option Addr} {len cap : Nat} {d : DataW H} {p : List MemPlace} (h : DataW.Trod enc Try.prog W 0 (fun _ => true) true 55 (.slice a len cap) d p) : ∃ D, Acts8 W a len D := by
  obtain ⟨fuel, hf⟩ := h
  have e7 : Try.prog.cellsOf 57 = 7 := by kernel_rfl
  rcases open_slice Try.underlying55 hf with ⟨hcs, _⟩ | ⟨y, l, cc, m, n, D, Pl, hcs, _, hl, hm, hmm, _, hel⟩
  · simp [Value.cells] at hcs
    obtain ⟨rfl, rfl, rfl⟩ := hcs
    exact ⟨default, by omega, fun h => absurd h (by omega), fun i hi => absurd hi (by omega)⟩
  · simp [Value.cells] at hcs
    obtain ⟨rfl, rfl, rfl⟩ := hcs
    simp only [if_true] at hmm
    have hm' : cap ≤ 9223372036854775807 := by simpa [maxLen] using hm
    obtain ⟨b, off, spot⟩ := y
    rw [e7] at hel
    by_cases hpos : 0 < len
    · obtain rfl : spot = none := by
        obtain ⟨cs', h1, _⟩ := hel 0 (by omega)
        exact cells_spot h1 (by omega)
      have hall : ∀ i, i < len → ∃ A : Act8, Act8At W b (off + i * 7) A ∧ RgS A.s := by
        intro i hi
        obtain ⟨cs', h1, h2⟩ := hel i (by omega)
        obtain ⟨A, rfl, hr⟩ := open_act8 h2
        obtain ⟨_, _, h3⟩ := World.cells?_some h1
        have cell : ∀ j v, j < 7 → A.cells[j]? = some v → W.cell? ⟨b, off + i * 7 + j, none⟩ = some v := by
          intro j v hj hv
          have h4 := h3 j hj
          rw [hv, Addr.add_lit, Addr.add_lit] at h4
          exact h4
        exact ⟨A, ⟨cell 0 _ (by omega) rfl, cell 1 _ (by omega) rfl, cell 2 _ (by omega) rfl, cell 3 _ (by omega) rfl, cell 4 _ (by omega) rfl, cell 5 _ (by omega) rfl, cell 6 _ (by omega) rfl⟩, hr⟩
      obtain ⟨DD, hDD⟩ := choose_lt hall
      have hb : b < W.heap.size := World.block_lt_of_cell? W _ (hDD 0 hpos).1.c0
      exact ⟨DD, by omega, fun _ => ⟨b, off, rfl, hb, fun i hi => (hDD i hi).1⟩, fun i hi => (hDD i hi).2⟩
    · exact ⟨default, by omega, fun h => absurd h hpos, fun i hi => absurd hi (by omega)⟩
end
end Go.Proofs.Ytijfiaggneeibaa
