/- 'copy' of bytes onto a part of a row of the call's own. -/
import Derived.Test.YtfnnelkipdajiaaDoorSplice
namespace Go.Proofs.YtfnnelkipdajiaaDoor
set_option maxRecDepth 100000
open Go.RowKit

theorem wpList_copy_row {w : World} {ops : Array Oper} {rest : List Oper} {o : Oper} {a : Act} {Q : Exit → Act → World → Prop} (hgd : o.guard = none) (d s : Operand)
    (ho : o.op = .call { callee := .builtin .copy, args := #[d, s], argTypes := #[26, 26] })
    (dp sp : Option Addr) (dLen dCap sLen sCap : Nat) (hd : a.eval d = .slice dp dLen dCap) (hs : a.eval s = .slice sp sLen sCap)
    (B sb i L sc : Nat) (zs ys : List Int) (hown : Own .u8 5 B w (some ⟨sb, 0, none⟩) L sc zs) (hn : ys.length = Nat.min sLen dLen)
    (hpos : 0 < ys.length → dp = some ⟨sb, i, none⟩) (hsl : Sl .u8 w sp sLen sCap ys) (hfit : i + ys.length ≤ L)
    (h : ∀ w', Own .u8 5 B w' (some ⟨sb, 0, none⟩) L sc (splice zs i ys) → w.grownBy w' (some sb) → w'.heap.size = w.heap.size → wpList Tryd.prog ops Q rest (a.put o.dst (goInt ys.length)) w') :
    wpList Tryd.prog ops Q (o :: rest) a w := by
  have hsz : (Tryd.prog.info? 5).map (·.size) = some 1 := by
    obtain ⟨i0, hi, hz0, hz1, hz2⟩ := info_parts Tryd.info5
    rw [hi]; simp [hz1]
  by_cases h0 : ys.length = 0
  · obtain rfl : ys = [] := List.eq_nil_of_length_eq_zero h0
    refine wpList_copy_nothing hgd d s 26 26 ho 5 Tryd.underlying26 hsz dp sp dLen dCap sLen sCap hd hs (by simpa using hn.symm) ?_
    have e1 : splice zs i ([] : List Int) = zs := by simp [splice]
    exact h w (by rw [e1]; exact hown) (World.grownBy.refl _ _) rfl
  · have hdp := hpos (by omega)
    subst hdp
    have hl := hsl.len
    obtain ⟨b, off, rfl, _, hc⟩ := hsl.here (by omega)
    obtain ⟨cur, hcur, hsize, _⟩ := hown.block
    have hcap := hown.cap_le
    obtain ⟨r1, r2, r3⟩ := own_copied hown hfit hcur
    have hco := fun (hh : wpList Tryd.prog ops Q rest (a.put o.dst (goInt (ys.map (Value.int .u8)).length)) (w.setRow sb (cur.toList.take i ++ (ys.map (Value.int .u8) ++ cur.toList.drop (i + (ys.map (Value.int .u8)).length))).toArray)) =>
      wpList_copy_own hgd d s 26 26 ho 5 Tryd.underlying26 hsz sb i dLen dCap ⟨b, off, none⟩ sLen sCap hd hs cur 5 hcur (ys.map (Value.int .u8)) (by simpa using hn) (fun j v hv => by
        have hj : j < ys.length := by simpa using (List.getElem?_eq_some_iff.1 hv).1
        rw [Addr.add_lit, hc j (by omega)]
        simp only [List.getElem?_map, List.getElem?_eq_getElem hj, Option.map_some, Option.some.injEq] at hv
        subst hv
        simp [List.getD, List.getElem?_eq_getElem hj]) (by simp; omega) (ints_oneCell _ _) hh
    refine hco ?_
    rw [List.length_map]
    rw [List.length_map] at r1 r2 r3
    exact h _ r1 r2 r3
/-- 'copy' onto a part of a row of the call's own, within a region that draws its order. -/
theorem step_copy_any {ops : Array Oper} {o : Oper} {a : Act} {w : World} {K : Act → World → Prop} {Q : Exit → Act → World → Prop} {E : Prop} (hgd : o.guard = none) (d s : Operand)
    (ho : o.op = .call { callee := .builtin .copy, args := #[d, s], argTypes := #[26, 26] })
    (B g i dLen dCap L sc m sCap : Nat) (so : Option Addr) (hd : a.eval d = .slice (some ⟨g, i, none⟩) dLen dCap) (hs : a.eval s = .slice so m sCap)
    (zs ys : List Int) (hown : Own .u8 5 B w (some ⟨g, 0, none⟩) L sc zs) (hx : Sl .u8 w so m sCap ys) (hdl : m ≤ dLen) (hfit : i + m ≤ L)
    (h : ∀ w', Own .u8 5 B w' (some ⟨g, 0, none⟩) L sc (splice zs i ys) → w.grownBy w' (some g) → w'.heap.size = w.heap.size → K (a.put o.dst (goInt m)) w') :
    if Region.wanted o (yielded ops a.tmps) = true then Oper.wp Tryd.prog o a w K Q else E := by
  by_cases hm : 0 < m
  · exact step_copy_sl hgd d s ho B g i dLen dCap L sc m sCap so hd hs zs ys hown hx hm hdl hfit h
  · obtain rfl : m = 0 := by omega
    obtain rfl : ys = [] := List.eq_nil_of_length_eq_zero hx.len
    have hw : Region.wanted o (yielded ops a.tmps) = true := by simp [Region.wanted, hgd]
    rw [if_pos hw]
    have hsz : (Tryd.prog.info? 5).map (·.size) = some 1 := by
      obtain ⟨i0, hi, hz0, hz1, hz2⟩ := info_parts Tryd.info5
      rw [hi]; simp [hz1]
    have hrun := run_copy_none (P := Tryd.prog) w 26 26 o.type 5 (some ⟨g, i, none⟩) so dLen dCap 0 sCap Tryd.underlying26 hsz (by simp)
    unfold Oper.wp
    simp [execOp, ho, resolve, invoke, builtin, hd, hs, hrun, Result.andThen]
    exact h w (by simpa [splice] using hown) (World.grownBy.refl _ _) rfl
theorem made_zeros (n : Nat) : (madeCells #[Value.int .u8 0] n).toList = (List.replicate n (0 : Int)).map (Value.int .u8) := by rw [toList_madeCells_one]; simp
end Go.Proofs.YtfnnelkipdajiaaDoor
