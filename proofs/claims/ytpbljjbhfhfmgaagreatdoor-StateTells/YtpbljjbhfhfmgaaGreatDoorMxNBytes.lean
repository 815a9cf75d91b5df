/- NBytes: these texts, one behind another. -/
import Derived.Test.YtpbljjbhfhfmgaaGreatDoorMxNamesP
import Derived.Test.YtpbljjbhfhfmgaaGreatDoorMxStM
import Derived.Test.YtpbljjbhfhfmgaaGreatDoorMxLent
import Derived.Lib.BufferWrite
/- names.Bytes by its contract. -/
namespace Go.Proofs.YtpbljjbhfhfmgaaGreatDoor
set_option maxRecDepth 100000
open Go.RowKit
set_option linter.unusedVariables false
set_option linter.unusedSimpArgs false

/-- 'copy(dst, s)' of a text that fits, into a row of the call's own. -/
theorem wpList_copy_str {P : Program} {w : World} {ops : Array Oper} {rest : List Oper} {o : Oper} {a : Act} {Q : Exit → Act → World → Prop} (hgd : o.guard = none) (d s : Operand) (dT sT : TypeId)
    (ho : o.op = .call { callee := .builtin .copy, args := #[d, s], argTypes := #[dT, sT] }) (elem : TypeId) (hu : P.underlying dT = some (.slice elem)) (hsz : (P.info? elem).map (·.size) = some 1)
    (g dLen dCap : Nat) (hd : a.eval d = .slice (some ⟨g, 0, none⟩) dLen dCap) (x : ByteArray) (hs : a.eval s = .string x)
    (cur : List Value) (t : TypeId) (hg : w.heap[g]? = some (.cells cur.toArray t (0, 0))) (hle : x.size ≤ dLen) (hfit : x.size ≤ cur.length) (B : Nat) (w0 : World) (hb : Below B w0 w) (hBg : B ≤ g)
    (h : ∀ w', Hid (w'.heap[g]? = some (.cells (Lib.byteCells x.data.toList ++ cur.drop x.size).toArray t (0, 0))) → Below B w0 w' → wpList P ops Q rest (a.put o.dst (goInt x.size)) w') : wpList P ops Q (o :: rest) a w := by
  refine wpList_plain hgd fun K hK => ?_
  have hrun := Lib.run_copy_row_string (P := P) w dT sT o.type elem g 0 dLen dCap x cur.toArray t hu hsz hg hle (by simpa using hfit)
  unfold Oper.wp
  simp only [execOp, ho, resolve, invoke, builtin, hd, hs]
  simp [hd, hs, hrun, Result.andThen]
  refine hK _ _ (h _ ?_ (below_setRow hb hBg _))
  show _ = _
  rw [setRow_heap w g _ _ t _ hg]
theorem eqb_nil {s : ByteArray} (h : s.data.toList = []) : s.toList = [] := by rw [Lib.toList_data, h]
theorem eqb_ne {s : ByteArray} (h : s.data.toList ≠ []) : ¬ s.toList = [] := by rw [Lib.toList_data]; exact h

theorem emp_t {s : ByteArray} (h : s.toList = []) : s.toList.isEmpty = true := by rw [h]; rfl
theorem emp_f {s : ByteArray} (h : ¬ s.toList = []) : s.toList.isEmpty = false := by
  cases e : s.toList with
  | nil => exact absurd e h
  | cons _ _ => rfl

set_option maxRecDepth 100000
end Go.Proofs.YtpbljjbhfhfmgaaGreatDoor
