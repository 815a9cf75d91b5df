/- 'append(b, make([]byte, k)...)' onto a row of bytes of the call's own. -/
import Derived.Test.YtfnnelkipdajiaaDoorPart
import Derived.Test.YtfnnelkipdajiaaDoorInfo
import Derived.Lib.AppendZerosOnto
namespace Go.Proofs.YtfnnelkipdajiaaDoor
set_option maxRecDepth 100000
open Go.RowKit
set_option linter.unusedVariables false
set_option linter.unusedSimpArgs false

theorem zeroC (k : Nat) : Builtin.zeroCells (Value.int .u8 0).cells k = (List.replicate k (Value.int .u8 0)).toArray := by
  apply Array.ext'
  apply List.ext_getElem?
  intro i
  have e : (Value.int .u8 0).cells = #[Value.int .u8 0] := rfl
  rw [e]
  by_cases hi : i < k
  · have h1 : i % 1 = 0 := Nat.mod_one i
    simp [Builtin.zeroCells, hi, h1]
  · rw [List.getElem?_eq_none (by simp [Builtin.zeroCells]; omega), List.getElem?_eq_none (by simp; omega)]
theorem grown_zs {w : World} {B n k old : Nat} {zs : List Int} (hl : zs.length = n) (hb : n + k ≤ 16777216) (hB : B ≤ w.heap.size) (row : Option Nat) :
    Own .u8 5 B (w.drew.alloc (.cells ((zs.map (Value.int .u8)).toArray ++ Builtin.zeroCells (Value.int .u8 0).cells k ++ Builtin.zeroCells (Value.int .u8 0).cells (grownCap w (n + k) old 5 - (n + k))) 5)) (some ⟨w.heap.size, 0, none⟩) (n + k) (grownCap w (n + k) old 5) (zs ++ List.replicate k 0) ∧
      w.grownBy (w.drew.alloc (.cells ((zs.map (Value.int .u8)).toArray ++ Builtin.zeroCells (Value.int .u8 0).cells k ++ Builtin.zeroCells (Value.int .u8 0).cells (grownCap w (n + k) old 5 - (n + k))) 5)) row := by
  have hge := grownCap_ge w (n + k) old 5
  have hcm : grownCap w (n + k) old 5 ≤ maxLen := grownCap_le_maxLen w (n + k) old 5 (by unfold maxLen; omega)
  have hlen : (zs ++ List.replicate k (0 : Int)).length = n + k := by simp [hl]
  refine ⟨⟨hlen, by simp [hl], .inr ⟨w.heap.size, _, _, rfl, hB, heap_alloc_new w.drew _, hge, hcm, ?_, ?_⟩⟩, ⟨rfl, rfl, rfl, by simp, fun j hj _ => (heap_alloc_old w.drew _ (show j < w.drew.heap.size from hj))⟩⟩
  · rw [zeroC, zeroC]
    simp [hl]
    omega
  · rw [zeroC, zeroC]
    simp only [Array.toList_append, List.map_append, List.map_replicate]
    exact List.take_left' (by simp [hl])
theorem run_append_zs (w : World) (ty : TypeId) (B n c k : Nat) (bo : Option Addr) (zs : List Int) (hown : Own .u8 5 B w bo n c zs) (hk : 0 < k) (hb : n + k ≤ 16777216) (hB : B ≤ w.heap.size) :
    ∃ bo' c' w', (Builtin.append_ #[26, 3] ty #[.slice bo n c, .int .i64 k]).run Tryd.prog w = .ok (.slice bo' (n + k) c') w' ∧ Own .u8 5 B w' bo' (n + k) c' (zs ++ List.replicate k 0) ∧ w.grownBy w' (Value.slice bo n c).ownBlock := by
  obtain ⟨i0, hi, hz0, hz1, hz2⟩ := info_parts Tryd.info5
  have hl := hown.len
  rcases hown.row.2 with ⟨hv, hn0⟩ | ⟨g, cap', cur, hv, hbg, hg, hnc, hcm, hcs, htake⟩
  · simp only [Value.slice.injEq] at hv
    obtain ⟨rfl, rfl, rfl⟩ := hv
    obtain rfl : zs = [] := List.eq_nil_of_length_eq_zero hl
    have hr := Lib.run_append_nil_zeros (P := Tryd.prog) w 26 3 ty 5 i0 (.int .u8 0) .i64 .i64 Tryd.underlying26 Tryd.underlying3 hi hz0 k hk (by omega) (by omega) (by rw [hz2]; omega)
    have hgr := grown_zs (w := w) (B := B) (n := 0) (k := k) (old := 0) (zs := []) rfl hb hB (Value.ownBlock (.slice none 0 0))
    simp only [Nat.zero_add, List.map_nil, List.nil_append, Array.empty_append] at hgr ⊢
    exact ⟨_, _, _, hr, hgr.1, hgr.2⟩
  · simp only [Value.slice.injEq] at hv
    obtain ⟨rfl, _, rfl⟩ := hv
    rw [Nat.mul_one] at hcs htake
    by_cases hroom : n + k ≤ c
    · have hst := run_storeCells_at Tryd.prog g n 5 (List.replicate k (Value.int .u8 0)) 0 cur w hg (by simp; omega) (fun u hu => by rw [(List.mem_replicate.1 hu).2]; rfl)
      simp only [Nat.add_zero] at hst
      have hw : IntKind.i64.wrap (k : Int) = k := by rw [IntKind.wrap_i64]; omega
      have hneg : ¬ ((k : Int) < 0) := by omega
      have h48i : ¬ (281474976710656 < (k : Int)) := by omega
      have hk0 : k ≠ 0 := by omega
      have hr : (Builtin.append_ #[26, 3] ty #[.slice (some ⟨g, 0, none⟩) n c, .int .i64 k]).run Tryd.prog w = .ok (.slice (some ⟨g, 0, none⟩) (n + k) c) (w.setRow g (cur.toList.take n ++ List.replicate k (Value.int .u8 0) ++ cur.toList.drop (n + (List.replicate k (Value.int .u8 0)).length)).toArray) := by
        simp [Builtin.append_, run_underlying Tryd.underlying26, run_underlying Tryd.underlying3, sizeOf, typeInfo, zeroValue, hi, hz0, hz1, hz2, asInt, asIntOf, hw, hneg, h48i, hk0, hroom, zeroC, Addr.add_lit]
        have hst' : Sem.run Tryd.prog (storeCells ⟨g, n, none⟩ (List.replicate k (Value.int .u8 0))) w = _ := hst
        rw [hst']
        simp
      refine ⟨_, _, _, hr, ⟨by simp [hl], by simp [hl], .inr ⟨g, c, _, rfl, hbg, setRow_heap w g cur _ 5 _ hg, hroom, hcm, ?_, ?_⟩⟩, ⟨rfl, rfl, rfl, by simp, fun j _ hj => setRow_other w g j _ (fun e => hj (by simp [Value.ownBlock, e]))⟩⟩
      · simp
        omega
      · simp only [Nat.mul_one, List.map_append, List.map_replicate]
        rw [htake]
        exact List.take_left' (by simp [hl])
    · have hcells : ∀ j u, (zs.map (Value.int .u8))[j]? = some u → w.cell? ((⟨g, 0, none⟩ : Addr).add j) = some u := hown.row.cells (g := g) rfl
      have hf := run_firstCells_some (P := Tryd.prog) w.drew i0.size n ⟨g, 0, none⟩ n c (zs.map (Value.int .u8)) (by rw [hz1]; simp [hl]) (fun j u hu => hcells j u hu)
      have hr := Lib.run_append_grow_zeros (P := Tryd.prog) w 26 3 ty 5 i0 (.int .u8 0) .i64 .i64 Tryd.underlying26 Tryd.underlying3 hi hz0 (some ⟨g, 0, none⟩) n c (zs.map (Value.int .u8)) hf k hk (by omega) (by omega) (by omega) (by rw [hz2]; omega) (growslice_fits (by omega) (by rw [hz2]; omega))
      have hgr := grown_zs (w := w) (B := B) (n := n) (k := k) (old := c) (zs := zs) hl hb hB (Value.ownBlock (.slice (some ⟨g, 0, none⟩) n c))
      exact ⟨_, _, _, hr, hgr.1, hgr.2⟩
/-- The operation, for the walk. -/
theorem append_zs {w : World} {ops : Array Oper} {rest : List Oper} {o : Oper} {a : Act} {Q : Exit → Act → World → Prop} (hgd : o.guard = none) (s x : Operand)
    (ho : o.op = .call { callee := .builtin .append, args := #[s, x], argTypes := #[26, 3] })
    (B n c k : Nat) (bo : Option Addr) (zs : List Int) (kk : Int) (hs : a.eval s = .slice bo n c) (hx : a.eval x = .int .i64 kk) (hkk : kk = (k : Int)) (hown : Own .u8 5 B w bo n c zs) (hk : 0 < k) (hb : n + k ≤ 16777216) (hB : B ≤ w.heap.size)
    (h : ∀ bo' c' w', Own .u8 5 B w' bo' (n + k) c' (zs ++ List.replicate k 0) → w.grownBy w' (Value.slice bo n c).ownBlock → wpList Tryd.prog ops Q rest (a.put o.dst (.slice bo' (n + k) c')) w') : wpList Tryd.prog ops Q (o :: rest) a w := by
  subst hkk
  obtain ⟨bo', c', w', hr, h1, h2⟩ := run_append_zs w o.type B n c k bo zs hown hk hb hB
  exact Lib.wpList_append_run w hgd s x 26 3 ho _ _ hs hx _ w' hr (h bo' c' w' h1 h2)
end Go.Proofs.YtfnnelkipdajiaaDoor
