/- 'copy' onto a row of the call's own. -/
import Derived.Test.YtgiippbjieecmaaGreatMgD
import Derived.Test.YtgiippbjieecmaaGreatSplice
namespace Go.Proofs.YtgiippbjieecmaaGreat
set_option maxRecDepth 100000
open Go.RowKit Go.Maps

theorem wpList_copy_row {w : World} {ops : Array Oper} {rest : List Oper} {o : Oper} {a : Act} {Q : Exit → Act → World → Prop} (hgd : o.guard = none) (d s : Operand)
    (ho : o.op = .call { callee := .builtin .copy, args := #[d, s], argTypes := #[22, 22] })
    (dp sp : Option Addr) (dLen dCap sLen sCap : Nat) (hd : a.eval d = .slice dp dLen dCap) (hs : a.eval s = .slice sp sLen sCap)
    (B sb i L sc : Nat) (zs ys : List Int) (hown : Own .u8 5 B w (some ⟨sb, 0, none⟩) L sc zs) (hn : ys.length = Nat.min sLen dLen)
    (hpos : 0 < ys.length → dp = some ⟨sb, i, none⟩) (hsl : Sl .u8 w sp sLen sCap ys) (hfit : i + ys.length ≤ L)
    (h : ∀ w', Own .u8 5 B w' (some ⟨sb, 0, none⟩) L sc (splice zs i ys) → w.grownBy w' (some sb) → w'.heap.size = w.heap.size → wpList Tryz.prog ops Q rest (a.put o.dst (goInt ys.length)) w') :
    wpList Tryz.prog ops Q (o :: rest) a w := by
  have hsz : (Tryz.prog.info? 5).map (·.size) = some 1 := by
    obtain ⟨i0, hi, hz0, hz1, hz2⟩ := info_parts Tryz.info5
    rw [hi]; simp [hz1]
  by_cases h0 : ys.length = 0
  · obtain rfl : ys = [] := List.eq_nil_of_length_eq_zero h0
    refine wpList_copy_nothing hgd d s 22 22 ho 5 Tryz.underlying22 hsz dp sp dLen dCap sLen sCap hd hs (by simpa using hn.symm) ?_
    have e1 : splice zs i ([] : List Int) = zs := by simp [splice]
    exact h w (by rw [e1]; exact hown) (World.grownBy.refl _ _) rfl
  · have hdp := hpos (by omega)
    subst hdp
    have hl := hsl.len
    obtain ⟨b, off, rfl, _, hc⟩ := hsl.here (by omega)
    obtain ⟨cur, hcur, hsize, _⟩ := hown.block
    have hcap := hown.cap_le
    obtain ⟨r1, r2, r3⟩ := own_copied hown hfit hcur
    have hco := fun (hh : wpList Tryz.prog ops Q rest (a.put o.dst (goInt (ys.map (Value.int .u8)).length)) (w.setRow sb (cur.toList.take i ++ (ys.map (Value.int .u8) ++ cur.toList.drop (i + (ys.map (Value.int .u8)).length))).toArray)) =>
      wpList_copy_own hgd d s 22 22 ho 5 Tryz.underlying22 hsz sb i dLen dCap ⟨b, off, none⟩ sLen sCap hd hs cur 5 hcur (ys.map (Value.int .u8)) (by simpa using hn) (fun j v hv => by
        have hj : j < ys.length := by simpa using (List.getElem?_eq_some_iff.1 hv).1
        rw [Addr.add_lit, hc j (by omega)]
        simp only [List.getElem?_map, List.getElem?_eq_getElem hj, Option.map_some, Option.some.injEq] at hv
        subst hv
        simp [List.getD, List.getElem?_eq_getElem hj]) (by simp; omega) (ints_oneCell _ _) hh
    refine hco ?_
    rw [List.length_map]
    rw [List.length_map] at r1 r2 r3
    exact h _ r1 r2 r3
end Go.Proofs.YtgiippbjieecmaaGreat
