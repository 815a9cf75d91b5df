/- joistref03.New by its contract. -/
import Derived.Test.YtgiippbjieecmaaGreatMgJ
import Derived.Deep.RegionLaw
namespace Go.Proofs.YtgiippbjieecmaaGreat
set_option maxRecDepth 100000
open Go.RowKit
set_option linter.unusedVariables false

/-- 'append([]byte{}, x...)' within a region that draws its order: x of m > 0 bytes. -/
theorem step_append_fresh {ops : Array Oper} {o : Oper} {a : Act} {w : World} {K : Act → World → Prop} {Q : Exit → Act → World → Prop} {E : Prop} (hgd : o.guard = none) (s x : Operand)
    (ho : o.op = .call { callee := .builtin .append, args := #[s, x], argTypes := #[22, 22] })
    (g m c b off : Nat) (hs : a.eval s = .slice (some ⟨g, 0, none⟩) 0 0) (hx : a.eval x = .slice (some ⟨b, off, none⟩) m c)
    (zs : List Int) (hsl : Sl .u8 w (some ⟨b, off, none⟩) m c zs) (hm : 0 < m) (hm2 : m ≤ 262144)
    (h : ∀ (C : Nat) (arr : Array Value), m ≤ C → C ≤ maxLen → arr.size = C → Hid (arr.toList.take m = zs.map (Value.int .u8)) → K (a.put o.dst (.slice (some ⟨w.heap.size, 0, none⟩) m C)) (w.drew.alloc (.cells arr 5))) :
    if Region.wanted o (yielded ops a.tmps) = true then Oper.wp Tryz.prog o a w K Q else E := by
  have hw : Region.wanted o (yielded ops a.tmps) = true := by simp [Region.wanted, hgd]
  rw [if_pos hw]
  obtain ⟨i0, hi, hz0, hz1, hz2⟩ := info_parts Tryz.info5
  have hlen := hsl.len
  have hr := run_append_grow (P := Tryz.prog) w 22 o.type 5 i0 (.int .u8 0) Tryz.underlying22 hi hz0 ⟨g, 0, none⟩ 0 0 [] (by simp) (by intro j v hv; simp at hv) ⟨b, off, none⟩ m c (zs.map (Value.int .u8)) (by rw [hz1]; simp [hlen]) hsl.cells (by omega) (by omega) (growslice_fits (by omega) (by rw [hz2]; omega))
  rw [Nat.zero_add] at hr
  have h1 := grownCap_ge w m 0 5
  have h2 := grownCap_le_maxLen w m 0 5 (by unfold maxLen; omega)
  unfold Oper.wp
  simp only [execOp, ho, resolve, invoke, builtin]
  simp [hs, hx, hr, Result.andThen, Oper.upon_value]
  have := h (grownCap w m 0 5) (([] : List Value).toArray ++ (zs.map (Value.int .u8)).toArray ++ Builtin.zeroCells (Value.int .u8 0).cells (grownCap w m 0 5 - m)) h1 h2 (by
    rw [Array.size_append, size_zeroCells]
    simp [hlen, Value.cells]
    omega) (hid (by simp [← hlen]))
  simpa using this
theorem bal {w w' : World} {o : Obj} (h : Below w.heap.size w w') : Below w.heap.size w (w'.alloc o) := h.alloc h.size o
theorem bdr {w w' : World} (h : Below w.heap.size w w') : Below w.heap.size w w'.drew := h.drew
theorem rnew_mk {w w' : World} {e : Ending} {q lb lc sb sc db fb n N : Nat} {zs : List Int} {al as' : Array Value} (he : e = .returned (.tuple #[.pointer (some ⟨q, 0, none⟩), .int .i64 0])) (hn : n = 64 * N) (hz' : zs.length = n) (hN : 1 ≤ N) (hN2 : N ≤ 4096) (hby : Bytes zs)
    (h0 : w'.heap[q]? = some (.cells #[.slice (some ⟨lb, 0, none⟩) n lc, .slice (some ⟨sb, 0, none⟩) n sc, .slice (some ⟨db, 0, none⟩) N N, .slice (some ⟨fb, 0, none⟩) N N, .int .i64 0, .bool false] 56 (0, 0)))
    (h1 : w'.heap[lb]? = some (.cells al 5 (0, 0))) (k1 : n ≤ lc ∧ lc ≤ maxLen ∧ al.size = lc ∧ al.toList.take n = zs.map (Value.int .u8))
    (h2 : w'.heap[sb]? = some (.cells as' 5 (0, 0))) (k2 : n ≤ sc ∧ sc ≤ maxLen ∧ as'.size = sc ∧ as'.toList.take n = zs.map (Value.int .u8))
    (h3 : w'.heap[db]? = some (.cells (Array.replicate N (Value.bool false)) 4 (0, 0))) (h4 : w'.heap[fb]? = some (.cells (Array.replicate N (Value.bool false)) 4 (0, 0)))
    (hls : lb ≠ sb) (hdf : db ≠ fb) (hb : w.heap.size ≤ lb ∧ w.heap.size ≤ sb ∧ w.heap.size ≤ db ∧ w.heap.size ≤ fb ∧ w.heap.size ≤ q) (hbel : Below w.heap.size w w') :
    ∃ q G, e = .returned (.tuple #[.pointer (some ⟨q, 0, none⟩), .int .i64 0]) ∧ RDev w' G q (RSt.new zs) ∧ (∀ k, G k → w.heap.size ≤ k) ∧ Below w.heap.size w w' := by
  subst hn
  have hz := hz'
  have e : zs.length / 64 = N := by omega
  refine ⟨q, fun k => k = q ∨ k = lb ∨ k = sb ∨ k = db ∨ k = fb, he, ⟨lb, lc, sb, sc, db, fb, ?_⟩, (fun k hk => by omega), hbel⟩
  have hr : (RSt.new zs).n = N := e
  have o1 : Own .u8 5 0 w' (some ⟨lb, 0, none⟩) (64 * N) lc zs := ⟨hz, by simp [hz], Or.inr ⟨lb, lc, al, rfl, Nat.zero_le _, h1, k1.1, k1.2.1, by rw [k1.2.2.1]; omega, by rw [Nat.mul_one]; exact k1.2.2.2⟩⟩
  have o2 : Own .u8 5 0 w' (some ⟨sb, 0, none⟩) (64 * N) sc zs := ⟨hz, by simp [hz], Or.inr ⟨sb, sc, as', rfl, Nat.zero_le _, h2, k2.1, k2.2.1, by rw [k2.2.2.1]; omega, by rw [Nat.mul_one]; exact k2.2.2.2⟩⟩
  have lt : ∀ {k : Nat} {o : Obj}, w'.heap[k]? = some o → k < w'.heap.size := fun h => (Array.getElem?_eq_some_iff.1 h).1
  refine ⟨⟨?_, ?_, ?_, ?_, ?_, ?_, ?_, ?_, hby, hby⟩, ?_, Or.inl rfl, by simp, by simp, by simp, by simp, ?_, ?_, ?_, ?_, hls, hdf, ?_⟩
  · rw [hr]; exact hz
  · rw [hr]; exact hz
  · simp [RSt.new]
  · simp [RSt.new]
  · rw [hr]; exact hN
  · rw [hr]; exact hN2
  · exact Int.le_refl _
  · show (0 : Int) ≤ _; omega
  · rw [hr]; exact h0
  · rw [hr]; exact o1
  · rw [hr]; exact o2
  · show _ = some (boolObj (List.replicate (zs.length / 64) false)); rw [e, boolObj, List.map_replicate, List.toArray_replicate]; exact h3
  · show _ = some (boolObj (List.replicate (zs.length / 64) false)); rw [e, boolObj, List.map_replicate, List.toArray_replicate]; exact h4
  · rintro k (rfl | rfl | rfl | rfl | rfl)
    · exact lt h0
    · exact lt h1
    · exact lt h2
    · exact lt h3
    · exact lt h4
/-- Seven blocks more. -/
theorem rnew_end {w w' : World} {e : Ending} {zs : List Int} {o1 o2 o3 o4 o5 o6 o7 : Obj} (hh : w'.heap = ((((((w.heap.push o1).push o2).push o3).push o4).push o5).push o6).push o7)
    (h : w'.heap[w.heap.size]? = some o1 → w'.heap[w.heap.size + 1]? = some o2 → w'.heap[w.heap.size + 1 + 1]? = some o3 → w'.heap[w.heap.size + 1 + 1 + 1]? = some o4 → w'.heap[w.heap.size + 1 + 1 + 1 + 1]? = some o5 → w'.heap[w.heap.size + 1 + 1 + 1 + 1 + 1]? = some o6 → w'.heap[w.heap.size + 1 + 1 + 1 + 1 + 1 + 1]? = some o7 →
      ∃ q G, e = .returned (.tuple #[.pointer (some ⟨q, 0, none⟩), .int .i64 0]) ∧ RDev w' G q (RSt.new zs) ∧ (∀ k, G k → w.heap.size ≤ k) ∧ Below w.heap.size w w') :
    ∃ q G, e = .returned (.tuple #[.pointer (some ⟨q, 0, none⟩), .int .i64 0]) ∧ RDev w' G q (RSt.new zs) ∧ (∀ k, G k → w.heap.size ≤ k) ∧ Below w.heap.size w w' := by
  have po : ∀ {a : Array Obj} {o x : Obj} {k : Nat}, a[k]? = some x → (a.push o)[k]? = some x := fun {a o x k} hk => by
    have hlt := (Array.getElem?_eq_some_iff.1 hk).1
    rw [Array.getElem?_push, if_neg (by omega)]
    exact hk
  have pn : ∀ {a : Array Obj} {o : Obj} {k : Nat}, k = a.size → (a.push o)[k]? = some o := fun {a o k} hk => by
    rw [Array.getElem?_push, if_pos hk]
  rw [hh] at h
  exact h (po (po (po (po (po (po (pn rfl))))))) (po (po (po (po (po (pn (by simp))))))) (po (po (po (po (pn (by simp)))))) (po (po (po (pn (by simp))))) (po (po (pn (by simp)))) (po (pn (by simp))) (pn (by simp))
theorem Tryz.info4 : (Tryz.prog.info? 4).map (fun i => (i.zero, i.size, i.bytes)) = some (some (.bool false), 1, 1) := by kernel_rfl
theorem rnew_bad (ao : Option Addr) (n cap : Nat) (w : World) (hn : n ≤ 9223372036854775807) (hb : newOk n = false) :
    Calls Tryz.prog 6 #[.slice ao n cap] w fun e w' => e = .returned (.tuple #[.pointer none, .int .i64 1]) ∧ w = w' := by
  have hb' : ¬ (n ≠ 0 ∧ n % 64 = 0 ∧ n / 64 ≤ 4096) := by simpa [newOk] using hb
  by_cases h0 : n = 0
  · have e0 : ((n : Int) == 0) = true := by simp; omega
    clear h0 hb' hb
    go_enter Tryz.func6, Tryz.ntmps6
    go_wp2
    go_ret2
    exact ⟨rfl, rfl⟩
  · have e0 : ((n : Int) == 0) = false := by simp; omega
    by_cases h1 : n % 64 = 0
    · have e1 : ((n : Int) % 64 != 0) = false := by simp; omega
      have e2 : (262144 : Int) < n := by omega
      clear h0 hb' hb h1
      go_enter Tryz.func6, Tryz.ntmps6
      go_wp2
      go_ret2
      exact ⟨rfl, rfl⟩
    · have e1 : ((n : Int) % 64 != 0) = true := by simp; omega
      clear h0 hb' hb h1
      go_enter Tryz.func6, Tryz.ntmps6
      go_wp2
      go_ret2
      exact ⟨rfl, rfl⟩
set_option maxRecDepth 100000 in
set_option maxHeartbeats 8000000 in
theorem rnew_good (ao : Option Addr) (n cap : Nat) (zs : List Int) (w : World) (hsl : Sl .u8 w ao n cap zs) (hby : Bytes zs) (hb : newOk n = true) :
    Calls Tryz.prog 6 #[.slice ao n cap] w fun e w' => ∃ q G, e = .returned (.tuple #[.pointer (some ⟨q, 0, none⟩), .int .i64 0]) ∧ RDev w' G q (RSt.new zs) ∧ (∀ k, G k → w.heap.size ≤ k) ∧ Below w.heap.size w w' := by
  have hb' : n ≠ 0 ∧ n % 64 = 0 ∧ n / 64 ≤ 4096 := by simpa [newOk] using hb
  obtain ⟨N, hnN⟩ : ∃ N, n = 64 * N := ⟨n / 64, by omega⟩
  have hN1 : 1 ≤ N := by omega
  have hN2 : N ≤ 4096 := by omega
  obtain ⟨b, off, rfl, hlt, _⟩ := hsl.here (by omega)
  have hz := hsl.len
  have e0 : ((n : Int) == 0) = false := by simp; omega
  have e1 : ((n : Int) % 64 != 0) = false := by simp; omega
  have e2 : ¬ ((262144 : Int) < n) := by omega
  have e3 : (n : Int) / 64 = N := by omega
  obtain ⟨i0, hi, hz0, hz1, hz2⟩ := info_parts Tryz.info4
  have hmk : ∀ w : World, (Instr.makeSlice 35 (.int .i64 (N : Int)) (.int .i64 (N : Int))).run Tryz.prog w = .ok (.slice (some ⟨w.heap.size, 0, none⟩) N N) (w.alloc (.cells (List.replicate N (Value.bool false)).toArray 4)) := fun w => by
    have := run_make (P := Tryz.prog) w 35 4 i0 (.bool false) Tryz.underlying35 hi hz0 .i64 .i64 N N (by omega) (by omega) (by rw [hz2]; omega) (by omega)
    rw [this, Int.toNat_natCast, hz1, Nat.mul_one]
    congr 3
    apply Array.ext'
    rw [show (Value.bool false).cells = #[Value.bool false] from rfl, toList_madeCells_one]
  have hm1 : 0 < n := by omega
  have hm2 : n ≤ 262144 := by omega
  have hSl : Hid (∀ w', Below w.heap.size w w' → Sl .u8 w' (some ⟨b, off, none⟩) n cap zs) := hid (fun w' h => hsl.below h)
  have HN := hid hnN
  have HZ := hid hz
  clear hb hb' hsl hnN hz
  go_enter Tryz.func6, Tryz.ntmps6
  go_wp2
  go_region_law (first
    | (refine step_append_fresh rfl (.tmp 22) (.tmp 23) rfl _ n cap b off rfl rfl zs (hSl.out _ (by repeat (first | exact Below.refl _ _ | apply bal | apply bdr))) hm1 hm2 ?_; intro C1 arr1 p1 p2 p3 P4)
    | (refine step_append_fresh rfl (.tmp 25) (.tmp 26) rfl _ n cap b off rfl rfl zs (hSl.out _ (by repeat (first | exact Below.refl _ _ | apply bal | apply bdr))) hm1 hm2 ?_; intro C2 arr2 q1 q2 q3 Q4))
  all_goals
    go_wp2
    go_ret2
    refine rnew_end rfl ?_
    intro L0 L1 L2 L3 L4 L5 L6
    exact rnew_mk (al := arr1) (as' := arr2) rfl HN.out HZ.out hN1 hN2 hby L6 (by assumption) ⟨p1, p2, p3, P4.out⟩ (by assumption) ⟨q1, q2, q3, Q4.out⟩ (by assumption) (by assumption) (by omega) (by omega) (by omega) (by repeat (first | exact Below.refl _ _ | apply bal | apply bdr))
end Go.Proofs.YtgiippbjieecmaaGreat
