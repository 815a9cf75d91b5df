/- 'copy' onto a row of the call's own. -/
import Derived.Test.YtcelmnhdchfhiaaSoil
import Derived.Laws.CopyOwn
namespace Go.Proofs.Ytcelmnhdchfhiaa
open Go.RowKit Go.Maps

theorem splice_take {α : Type} (L : List α) (i n : Nat) (cs : List α) (h : i + cs.length ≤ n) (hn : n ≤ L.length) : (splice L i cs).take n = splice (L.take n) i cs := by
  obtain ⟨A, hA⟩ : ∃ A, A = L.take n := ⟨_, rfl⟩
  have hl : A.length = n := by rw [hA]; simp; omega
  have e : L = A ++ L.drop n := by rw [hA]; simp
  have e1 : splice L i cs = splice A i cs ++ L.drop n := by
    unfold splice
    conv => lhs; rw [e]
    rw [List.take_append_of_le_length (by omega), List.drop_append_of_le_length (by omega)]
    simp only [List.append_assoc]
  rw [e1, ← hA, List.take_append_of_le_length (by rw [length_splice A i cs (by omega)]; omega)]
  exact List.take_of_length_le (by rw [length_splice A i cs (by omega)]; omega)
theorem splice_map {α β : Type} (f : α → β) (L : List α) (i : Nat) (cs : List α) : (splice L i cs).map f = splice (L.map f) i (cs.map f) := by
  simp [splice, List.map_take, List.map_drop]
theorem splice_length {L cs : List Int} {i : Nat} (h : i + cs.length ≤ L.length) : (splice L i cs).length = L.length := length_splice L i cs h
theorem splice_bytes {L cs : List Int} {i : Nat} (h : Bytes L) (k : Bytes cs) : Bytes (splice L i cs) := by
  intro z hz
  unfold splice at hz
  simp only [List.mem_append] at hz
  rcases hz with hz | hz | hz
  · exact h z (List.mem_of_mem_take hz)
  · exact k z hz
  · exact h z (List.mem_of_mem_drop hz)

/-- What the row is behind a copy. -/
theorem own_copied {B : Nat} {w : World} {sb L sc i : Nat} {zs ys : List Int} (hown : Own .u8 5 B w (some ⟨sb, 0, none⟩) L sc zs) (hfit : i + ys.length ≤ L) {cur : Array Value} (hc : w.heap[sb]? = some (.cells cur 5 (0, 0))) :
    Own .u8 5 B (w.setRow sb (cur.toList.take i ++ (ys.map (Value.int .u8) ++ cur.toList.drop (i + (ys.map (Value.int .u8)).length))).toArray) (some ⟨sb, 0, none⟩) L sc (splice zs i ys) ∧
    w.grownBy (w.setRow sb (cur.toList.take i ++ (ys.map (Value.int .u8) ++ cur.toList.drop (i + (ys.map (Value.int .u8)).length))).toArray) (some sb) ∧
    (w.setRow sb (cur.toList.take i ++ (ys.map (Value.int .u8) ++ cur.toList.drop (i + (ys.map (Value.int .u8)).length))).toArray).heap.size = w.heap.size := by
  have hlen := hown.len
  rcases hown.row.2 with ⟨hv, _⟩ | ⟨g', cap', cur', hv, hg, hh, h1, h2, hs, ht⟩
  · simp at hv
  · simp only [Value.slice.injEq, Option.some.injEq, Addr.mk.injEq, and_true] at hv
    obtain ⟨rfl, _, rfl⟩ := hv
    rw [hc] at hh
    cases hh
    refine ⟨⟨by rw [splice_length (by omega)]; exact hlen, ?_, Or.inr ⟨sb, sc, _, rfl, hg, setRow_heap w sb _ _ 5 _ hc, h1, h2, ?_, ?_⟩⟩, ⟨rfl, rfl, rfl, by simp [World.setRow], fun k hk hn => setRow_other w sb k _ (fun e => hn (by rw [e]))⟩, by simp [World.setRow]⟩
    · rw [List.length_map, splice_length (by omega)]; simpa using hlen
    · have h3 := length_splice cur.toList i (ys.map (Value.int .u8)) (by simp; omega)
      simp only [splice] at h3
      simp only [List.size_toArray]
      rw [h3]; simpa using hs
    · show (splice cur.toList i (ys.map (Value.int .u8))).take (L * 1) = _
      rw [Nat.mul_one, splice_take _ _ _ _ (by simpa using hfit) (by simp; omega), splice_map]
      congr 1
      simpa using ht

theorem wpList_copy_row {w : World} {ops : Array Oper} {rest : List Oper} {o : Oper} {a : Act} {Q : Exit → Act → World → Prop} (hgd : o.guard = none) (d s : Operand)
    (ho : o.op = .call { callee := .builtin .copy, args := #[d, s], argTypes := #[22, 22] })
    (dp sp : Option Addr) (dLen dCap sLen sCap : Nat) (hd : a.eval d = .slice dp dLen dCap) (hs : a.eval s = .slice sp sLen sCap)
    (B sb i L sc : Nat) (zs ys : List Int) (hown : Own .u8 5 B w (some ⟨sb, 0, none⟩) L sc zs) (hn : ys.length = Nat.min sLen dLen)
    (hpos : 0 < ys.length → dp = some ⟨sb, i, none⟩) (hsl : Sl .u8 w sp sLen sCap ys) (hfit : i + ys.length ≤ L)
    (h : ∀ w', Own .u8 5 B w' (some ⟨sb, 0, none⟩) L sc (splice zs i ys) → w.grownBy w' (some sb) → w'.heap.size = w.heap.size → wpList Try.prog ops Q rest (a.put o.dst (goInt ys.length)) w') :
    wpList Try.prog ops Q (o :: rest) a w := by
  have hsz : (Try.prog.info? 5).map (·.size) = some 1 := by
    obtain ⟨i0, hi, hz0, hz1, hz2⟩ := info_parts Try.info5
    rw [hi]; simp [hz1]
  by_cases h0 : ys.length = 0
  · obtain rfl : ys = [] := List.eq_nil_of_length_eq_zero h0
    refine wpList_copy_nothing hgd d s 22 22 ho 5 Try.underlying22 hsz dp sp dLen dCap sLen sCap hd hs (by simpa using hn.symm) ?_
    have e1 : splice zs i ([] : List Int) = zs := by simp [splice]
    exact h w (by rw [e1]; exact hown) (World.grownBy.refl _ _) rfl
  · have hdp := hpos (by omega)
    subst hdp
    have hl := hsl.len
    obtain ⟨b, off, rfl, _, hc⟩ := hsl.here (by omega)
    obtain ⟨cur, hcur, hsize, _⟩ := hown.block
    have hcap := hown.cap_le
    obtain ⟨r1, r2, r3⟩ := own_copied hown hfit hcur
    have hco := fun (hh : wpList Try.prog ops Q rest (a.put o.dst (goInt (ys.map (Value.int .u8)).length)) (w.setRow sb (cur.toList.take i ++ (ys.map (Value.int .u8) ++ cur.toList.drop (i + (ys.map (Value.int .u8)).length))).toArray)) =>
      wpList_copy_own hgd d s 22 22 ho 5 Try.underlying22 hsz sb i dLen dCap ⟨b, off, none⟩ sLen sCap hd hs cur 5 hcur (ys.map (Value.int .u8)) (by simpa using hn) (fun j v hv => by
        have hj : j < ys.length := by simpa using (List.getElem?_eq_some_iff.1 hv).1
        rw [Addr.add_lit, hc j (by omega)]
        simp only [List.getElem?_map, List.getElem?_eq_getElem hj, Option.map_some, Option.some.injEq] at hv
        subst hv
        simp [List.getD, List.getElem?_eq_getElem hj]) (by simp; omega) (ints_oneCell _ _) hh
    refine hco ?_
    rw [List.length_map]
    rw [List.length_map] at r1 r2 r3
    exact h _ r1 r2 r3
end Go.Proofs.Ytcelmnhdchfhiaa
