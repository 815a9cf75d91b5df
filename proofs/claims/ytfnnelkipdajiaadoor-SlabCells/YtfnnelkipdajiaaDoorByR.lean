/- bytes.Clone, bytes.Equal by their contracts. -/
import Derived.Test.YtfnnelkipdajiaaDoorApp
import Derived.Test.YtfnnelkipdajiaaDoorInfo
import Derived.Test.YtfnnelkipdajiaaDoorLent
import Derived.Lib.SliceRun
import Derived.Laws.CopyOwn
import Derived.Deep.QuietTactic
import Derived.BigQuiet
namespace Go.Proofs.YtfnnelkipdajiaaDoor
set_option maxRecDepth 100000
open Go.RowKit
set_option linter.unusedVariables false
set_option linter.unusedSimpArgs false
set_option maxRecDepth 100000

theorem ttext_eq {a b : List Int} (ha : Bytes a) (hb : Bytes b) : ((strOfNums a).toList == (strOfNums b).toList) = decide (a = b) := by
  rw [Lib.strOfNums_toList, Lib.strOfNums_toList]
  have key : a.map (fun z : Int => z.toNat.toUInt8) = b.map (fun z : Int => z.toNat.toUInt8) → a = b := by
    intro h
    apply List.ext_getElem?
    intro i
    have h1 := congrArg (·[i]?) h
    simp only [List.getElem?_map] at h1
    rcases e1 : a[i]? with _ | x <;> rcases e2 : b[i]? with _ | y <;> rw [e1, e2] at h1 <;> simp only [Option.map_some, Option.map_none, Option.some.injEq, reduceCtorEq] at h1 ⊢
    have hx := ha x (List.mem_of_getElem? e1)
    have hy := hb y (List.mem_of_getElem? e2)
    have h2 := congrArg UInt8.toNat h1
    simp at h2
    omega
  by_cases h : a = b
  · simp [h]
  · rw [decide_eq_false h]
    simp only [beq_eq_false_iff_ne]
    exact fun e => h (key e)
theorem equalB_any (ao : Option Addr) (n cap : Nat) (xs : List Int) (bo : Option Addr) (m cap' : Nat) (ys : List Int) (w : World) (h : Sl .u8 w ao n cap xs) (g : Sl .u8 w bo m cap' ys) (hx : Bytes xs) (hy : Bytes ys) :
    Calls Tryd.prog 36 #[.slice ao n cap, .slice bo m cap'] w fun e w' => e = .returned (.bool (decide (xs = ys))) ∧ w = w' := by
  have t1 := h.text (P := Tryd.prog) (dst := 9) Tryd.underlying26 Tryd.underlying5 Tryd.underlying9
  have t2 := g.text (P := Tryd.prog) (dst := 9) Tryd.underlying26 Tryd.underlying5 Tryd.underlying9
  go_enter Tryd.func36, Tryd.ntmps36
  go_wp2
  go_ret
  exact ⟨ret_bool (ttext_eq hx hy), rfl⟩
theorem cloneB_any (a : Addr) (n cap : Nat) (zs : List Int) (w : World) (h : Sl .u8 w (some a) n cap zs) (hn : n ≤ 1000000) :
    Calls Tryd.prog 35 #[.slice (some a) n cap] w fun e w' => ∃ bo c, e = .returned (.slice bo n c) ∧ Own .u8 5 w.heap.size w' bo n c zs ∧ Below w.heap.size w w' := by
  have hmade : (w.alloc (.cells #[] 5)).ownsRow w.heap.size 5 1 (.slice (some ⟨w.heap.size, 0, none⟩) 0 0) 0 (([] : List Int).map (Value.int .u8)) := World.ownsRow_made w #[] 0 (Nat.le_refl _) (Nat.zero_le _) rfl
  have hb0 : Below w.heap.size w (w.alloc (.cells #[] 5)) := (Below.refl _ _).alloc (Nat.le_refl _) _
  have hsl := h.below hb0
  have d2 : 0 + n ≤ 140737488355328 := by omega
  have d3 : w.heap.size ≤ (w.alloc (.cells #[] 5)).heap.size := hb0.size
  have q22 : ∀ (w : World) (a : Option Addr) (n c n' c' : Nat), (binOp .eql 26 (.slice a n c) (.slice none n' c')).run Tryd.prog w = .ok (.bool a.isNone) w := fun w a n c n' c' => Lib.run_eql_slice_nil w _ _ a n c n' c' Tryd.underlying26
  go_enter Tryd.func35, Tryd.ntmps35
  go_wp2_with (first
    | (at_builtin; refine append_sl rfl (.tmp 5) (.tmp 6) rfl w.heap.size _ 0 [] rfl hmade (some a) n cap zs rfl hsl d2 d3 ?_; intro bo c w2 ho2 hg2 hnn; clear hnn; have HO := hid ho2; have HG := hid hg2; clear ho2 hg2))
  go_ret
  have ho2 := HO.out
  rw [Nat.zero_add, List.nil_append] at ho2
  exact ⟨bo, c, rfl, ho2, hb0.grown HG.out d3 (fun b hb => (hmade.lt b hb).1)⟩
end Go.Proofs.YtfnnelkipdajiaaDoor
