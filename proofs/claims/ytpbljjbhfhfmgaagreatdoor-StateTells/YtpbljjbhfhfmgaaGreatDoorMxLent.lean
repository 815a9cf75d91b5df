/- Lent · EqlB · ArR · Line · LgP: these texts, one behind another. -/
import Derived.Test.YtpbljjbhfhfmgaaGreatDoorMxInfo
import Derived.Laws.CopyOwn
import Derived.Test.YtpbljjbhfhfmgaaGreatDoorMxHandM
import Derived.WalkKit
import Derived.LoopTactic
import Derived.Test.YtpbljjbhfhfmgaaGreatDoorMxOff
/- joistlaw01.Lent and Kept by their contracts. -/
namespace Go.Proofs.YtpbljjbhfhfmgaaGreatDoor
set_option maxRecDepth 100000
open Go.RowKit

theorem hid {p : Prop} (h : p) : Hid p := h
/-- 'make([]T, l, c)'. -/
theorem wpList_make_some {P : Program} (w : World) {ops : Array Oper} {rest : List Oper} {o : Oper} {a : Act} {Q : Exit → Act → World → Prop}
    (hg : o.guard = none) (l c : Operand) (t : TypeId) (hop : o.op = Op.makeSlice t l c)
    (e : TypeId) (i : TypeInfo) (z : Value) (h1 : P.underlying t = some (.slice e)) (h2 : P.info? e = some i) (h3 : i.zero = some z) (h4 : i.size = 1) (h5 : z.cells = #[z])
    (kl kc : IntKind) (L C : Int) (n m : Nat) (hl : a.eval l = .int kl L) (hc : a.eval c = .int kc C) (hL : L = (n : Int)) (hC : C = (m : Int)) (hnm : n ≤ m) (b2 : i.bytes * m ≤ 281474976710656) (b3 : m ≤ maxLen)
    (hK : ∀ w', Hid (w'.heap[w.heap.size]? = some (.cells (List.replicate m z).toArray e (0, 0))) → Below w.heap.size w w' → wpList P ops Q rest (a.put o.dst (.slice (some ⟨w.heap.size, 0, none⟩) n m)) w') :
    wpList P ops Q (o :: rest) a w := by
  refine wpList_plain hg fun K hK' => ?_
  have hb' : (i.bytes : Int) * (m : Int) ≤ 281474976710656 := by
    have h : ((i.bytes * m : Nat) : Int) ≤ 281474976710656 := by omega
    rwa [Int.natCast_mul] at h
  have h63' : (m : Int) ≤ 9223372036854775807 := by
    have h := b3
    simp [maxLen] at h
    omega
  have hrun := run_make (P := P) w t e i z h1 h2 h3 kl kc n m (by omega) (by omega) hb' h63'
  simp only [Int.toNat_natCast] at hrun
  subst hL
  subst hC
  unfold Oper.wp
  simp [execOp, hop, hl, hc, hrun, Result.andThen]
  refine hK' _ _ (hK _ ?_ ((Below.refl _ _).alloc (Nat.le_refl _) _))
  show _ = _
  rw [heap_alloc_new, h4, h5, Nat.mul_one]
  congr 2
  apply Array.ext'
  rw [toList_madeCells_one]

/-- A row of bytes of the call's own, with one more behind them: 77. -/
def Lentd (w : World) (g : Nat) (zs : List Int) : Prop := w.heap[g]? = some (.cells ((zs ++ [77]).map (Value.int .u8)).toArray 5 (0, 0))
theorem Lentd.lt {w : World} {g : Nat} {zs : List Int} (h : Lentd w g zs) : g < w.heap.size := (Array.getElem?_eq_some_iff.1 h).1
theorem Lentd.below {w w' : World} {g : Nat} {zs : List Int} (h : Lentd w g zs) (hb : Below w.heap.size w w') : Lentd w' g zs := by
  have := h.lt
  unfold Lentd at h ⊢
  rw [hb.block g this]
  exact h
theorem Lentd.cell {w : World} {g : Nat} {zs : List Int} (h : Lentd w g zs) (j : Nat) : w.cell? ⟨g, j, none⟩ = ((zs ++ [77])[j]?).map (Value.int .u8) := by
  rw [cell_of_row w g j _ 5 (0, 0) h]
  simp only [List.getElem?_toArray, List.getElem?_map]
theorem Lentd.sl {w : World} {g n : Nat} {zs : List Int} (h : Lentd w g zs) (hn : zs.length = n) : Sl .u8 w (some ⟨g, 0, none⟩) n (n + 1) zs := by
  refine ⟨hn, by omega, (by intro h; cases h), fun _ => ⟨g, 0, rfl, h.lt, fun i hi => ?_⟩⟩
  have hi' : i < zs.length := by omega
  rw [Nat.zero_add, h.cell, List.getElem?_append_left hi']
  simp [List.getD, List.getElem?_eq_getElem hi']

end Go.Proofs.YtpbljjbhfhfmgaaGreatDoor
/- bytes.Equal by its contract. -/
namespace Go.Proofs.YtpbljjbhfhfmgaaGreatDoor
set_option maxRecDepth 100000
open Go.RowKit
set_option linter.unusedVariables false
set_option linter.unusedSimpArgs false
set_option maxRecDepth 100000

theorem trText {a b : List Int} (ha : Bytes a) (hb : Bytes b) (h : ¬ a = b) : ((strOfNums a).toList == (strOfNums b).toList) = false := by
  rw [Lib.strOfNums_toList, Lib.strOfNums_toList]
  have key : a.map (fun z : Int => z.toNat.toUInt8) = b.map (fun z : Int => z.toNat.toUInt8) → a = b := by
    intro h
    apply List.ext_getElem?
    intro i
    have h1 := congrArg (·[i]?) h
    simp only [List.getElem?_map] at h1
    rcases e1 : a[i]? with _ | x <;> rcases e2 : b[i]? with _ | y <;> rw [e1, e2] at h1 <;> simp only [Option.map_some, Option.map_none, Option.some.injEq, reduceCtorEq] at h1 ⊢
    have hx := ha x (List.mem_of_getElem? e1)
    have hy := hb y (List.mem_of_getElem? e2)
    have h2 := congrArg UInt8.toNat h1
    simp at h2
    omega
  simp only [beq_eq_false_iff_ne]
  exact fun e => h (key e)
/-- What the first i nodes and k pairs of the next tell. -/
def eqlB (a b : List Int) : Bool := decide (a = b)
theorem equal_sl (ao : Option Addr) (n cap : Nat) (zs : List Int) (bo : Option Addr) (m c : Nat) (ys : List Int) (w : World) (h : Sl .u8 w ao n cap zs) (g : Sl .u8 w bo m c ys) (hz : Bytes zs) (hy : Bytes ys) :
    Calls Tryz.prog 58 #[.slice ao n cap, .slice bo m c] w fun e w' => e = .returned (.bool (eqlB zs ys)) ∧ w = w' := by
  have c1 := h.text (P := Tryz.prog) Tryz.underlying48 Tryz.underlying5 Tryz.underlying9
  have c2 := g.text (P := Tryz.prog) Tryz.underlying48 Tryz.underlying5 Tryz.underlying9
  clear h g
  have HE : Hid (((strOfNums zs).toList == (strOfNums ys).toList) = eqlB zs ys) := hid (by
    by_cases e : zs = ys
    · subst e; simp [eqlB]
    · rw [trText hz hy e]; exact (decide_eq_false e).symm)
  go_enter Tryz.func58, Tryz.ntmps58
  go_wp2
  go_ret
  exact ⟨ret_bool HE.out, rfl⟩
end Go.Proofs.YtpbljjbhfhfmgaaGreatDoor
/- Areas in a block of their own, shapes in one. -/
namespace Go.Proofs.YtpbljjbhfhfmgaaGreatDoor
set_option maxRecDepth 100000
open Go.RowKit
set_option linter.unusedVariables false
set_option linter.unusedSimpArgs false
set_option maxRecDepth 100000

structure Ars where
  a0 : Int
  a1 : Int
  a2 : Int
  a3 : Int
  a4 : Int
  a5 : Int
  a6 : Int
  a7 : Int
  a8 : Int
def Ars.z : Ars := ⟨0, 0, 0, 0, 0, 0, 0, 0, 0⟩
def arA (s : Shp) : Ars := ⟨ar0 s, ar1 s, ar2 s, ar3 s, ar4 s, ar5 s, ar6 s, ar7 s, ar8 s⟩
/-- Areas in a block of their own. -/
def BxA (w : World) (b : Nat) (x : Ars) : Prop := w.heap[b]? = some (.cells #[.int .i64 x.a0, .int .i64 x.a1, .int .i64 x.a2, .int .i64 x.a3, .int .i64 x.a4, .int .i64 x.a5, .int .i64 x.a6, .int .i64 x.a7, .int .i64 x.a8] 115 (0, 0))
theorem BxA.lt {w : World} {b : Nat} {s : Ars} (h : BxA w b s) : b < w.heap.size := (Array.getElem?_eq_some_iff.1 h).1
theorem BxA.kept {w w' : World} {b : Nat} {s : Ars} (h : BxA w b s) (hb : Below w.heap.size w w') : BxA w' b s := (hb.block b h.lt).trans h
theorem BxA.more {w : World} {b : Nat} {s : Ars} (h : BxA w b s) (o : Obj) : BxA (w.alloc o) b s := h.kept ((Below.refl _ _).alloc (Nat.le_refl _) _)
structure CelA (w : World) (b : Nat) (x : Ars) : Prop where
  c0 : w.cell? ⟨b, 0, none⟩ = some (.int .i64 x.a0)
  c1 : w.cell? ⟨b, 1, none⟩ = some (.int .i64 x.a1)
  c2 : w.cell? ⟨b, 2, none⟩ = some (.int .i64 x.a2)
  c3 : w.cell? ⟨b, 3, none⟩ = some (.int .i64 x.a3)
  c4 : w.cell? ⟨b, 4, none⟩ = some (.int .i64 x.a4)
  c5 : w.cell? ⟨b, 5, none⟩ = some (.int .i64 x.a5)
  c6 : w.cell? ⟨b, 6, none⟩ = some (.int .i64 x.a6)
  c7 : w.cell? ⟨b, 7, none⟩ = some (.int .i64 x.a7)
  c8 : w.cell? ⟨b, 8, none⟩ = some (.int .i64 x.a8)
theorem BxA.cells {w : World} {b : Nat} {s : Ars} (h : BxA w b s) : CelA w b s := by
  unfold BxA at h
  refine ⟨?_, ?_, ?_, ?_, ?_, ?_, ?_, ?_, ?_⟩ <;> simp [World.cell?, h]
theorem BxA.free {w : World} {b : Nat} {s : Ars} (h : BxA w b s) (i : Nat) : w.frozen? ⟨b, i, none⟩ = false := frozen_of_row w b i _ 115 h
theorem bxA_new (w : World) (x : Ars) : BxA (w.alloc (.cells #[.int .i64 x.a0, .int .i64 x.a1, .int .i64 x.a2, .int .i64 x.a3, .int .i64 x.a4, .int .i64 x.a5, .int .i64 x.a6, .int .i64 x.a7, .int .i64 x.a8] 115)) w.heap.size x := heap_alloc_new w _
/-- A shape in a block of its own. -/
def BxS4 (w : World) (b : Nat) (s : Shp) : Prop := w.heap[b]? = some (.cells #[.int .i64 s.pg, .int .i64 s.sl, .int .i64 s.rt, .int .i64 s.rm] 23 (0, 0))
theorem BxS4.lt {w : World} {b : Nat} {s : Shp} (h : BxS4 w b s) : b < w.heap.size := (Array.getElem?_eq_some_iff.1 h).1
theorem BxS4.kept {w w' : World} {b : Nat} {s : Shp} (h : BxS4 w b s) (hb : Below w.heap.size w w') : BxS4 w' b s := (hb.block b h.lt).trans h
theorem BxS4.more {w : World} {b : Nat} {s : Shp} (h : BxS4 w b s) (o : Obj) : BxS4 (w.alloc o) b s := h.kept ((Below.refl _ _).alloc (Nat.le_refl _) _)
theorem BxS4.cells {w : World} {b : Nat} {s : Shp} (h : BxS4 w b s) : w.cell? ⟨b, 0, none⟩ = some (.int .i64 s.pg) ∧ w.cell? ⟨b, 1, none⟩ = some (.int .i64 s.sl) ∧ w.cell? ⟨b, 2, none⟩ = some (.int .i64 s.rt) ∧ w.cell? ⟨b, 3, none⟩ = some (.int .i64 s.rm) := by
  unfold BxS4 at h
  refine ⟨?_, ?_, ?_, ?_⟩ <;> simp [World.cell?, h]
theorem BxS4.free {w : World} {b : Nat} {s : Shp} (h : BxS4 w b s) (i : Nat) : w.frozen? ⟨b, i, none⟩ = false := frozen_of_row w b i _ 23 h
theorem bxS4_new (w : World) (s : Shp) : BxS4 (w.alloc (.cells #[.int .i64 s.pg, .int .i64 s.sl, .int .i64 s.rt, .int .i64 s.rm] 23)) w.heap.size s := heap_alloc_new w _
end Go.Proofs.YtpbljjbhfhfmgaaGreatDoor
/- lines.isImage, count, line, copied, fits and bytes.Equal by their contracts. -/
namespace Go.Proofs.YtpbljjbhfhfmgaaGreatDoor
set_option maxRecDepth 100000
open Go.RowKit

theorem text_eq {a b : List Int} (ha : Bytes a) (hb : Bytes b) : ((strOfNums a).toList == (strOfNums b).toList) = decide (a = b) := by
  rw [Lib.strOfNums_toList, Lib.strOfNums_toList]
  have key : a.map (fun z : Int => z.toNat.toUInt8) = b.map (fun z : Int => z.toNat.toUInt8) → a = b := by
    intro h
    apply List.ext_getElem?
    intro i
    have h1 := congrArg (·[i]?) h
    simp only [List.getElem?_map] at h1
    rcases e1 : a[i]? with _ | x <;> rcases e2 : b[i]? with _ | y <;> rw [e1, e2] at h1 <;> simp only [Option.map_some, Option.map_none, Option.some.injEq, reduceCtorEq] at h1 ⊢
    have hx := ha x (List.mem_of_getElem? e1)
    have hy := hb y (List.mem_of_getElem? e2)
    have h2 := congrArg UInt8.toNat h1
    simp at h2
    omega
  by_cases h : a = b
  · simp [h]
  · rw [decide_eq_false h]
    simp only [beq_eq_false_iff_ne]
    exact fun e => h (key e)

/-- Are bytes whole lines? -/
def imgB (n : Nat) : Bool := decide (n % 64 = 0)
/-- Line i. -/
def lin (zs : List Int) (i : Nat) : List Int := (zs.drop (64 * i)).take 64
def eqB (a b : List Int) : Bool := decide (a = b)
theorem eqB_t {a b : List Int} (h : a = b) : eqB a b = true := by simp [eqB, h]
theorem eqB_f {a b : List Int} (h : ¬ a = b) : eqB a b = false := by simp [eqB, h]
def fitsB (n : Int) (line : Int) (bl : Nat) : Bool := decide (0 ≤ line ∧ line < n ∧ bl = 64)
theorem fitsB_t {n line : Int} {bl : Nat} (h : fitsB n line bl = true) : 0 ≤ line ∧ line < n ∧ bl = 64 := by simpa [fitsB] using h
theorem fitsB_mk {n line : Int} {bl : Nat} (h : 0 ≤ line ∧ line < n ∧ bl = 64) : fitsB n line bl = true := by simp [fitsB, h]
theorem lin_length {zs : List Int} {i : Nat} (h : 64 * i + 64 ≤ zs.length) : (lin zs i).length = 64 := by simp [lin]; omega
theorem lin_bytes {zs : List Int} (h : Bytes zs) (i : Nat) : Bytes (lin zs i) := (h.drop _).take _

theorem equal_any (ao : Option Addr) (n cap : Nat) (xs : List Int) (bo : Option Addr) (m c : Nat) (ys : List Int) (w : World) (h : Sl .u8 w ao n cap xs) (g : Sl .u8 w bo m c ys) (hx : Bytes xs) (hy : Bytes ys) :
    Calls Tryz.prog 58 #[.slice ao n cap, .slice bo m c] w fun e w' => e = .returned (.bool (eqB xs ys)) ∧ w = w' := by
  have hc1 := h.text (P := Tryz.prog) Tryz.underlying48 Tryz.underlying5 Tryz.underlying9
  have hc2 := g.text (P := Tryz.prog) Tryz.underlying48 Tryz.underlying5 Tryz.underlying9
  clear h g
  go_enter Tryz.func58, Tryz.ntmps58
  go_wp2
  go_ret
  exact ⟨ret_bool (text_eq hx hy), rfl⟩
end Go.Proofs.YtpbljjbhfhfmgaaGreatDoor
/- wal.Right, inRecords, Mine by their contracts. -/
namespace Go.Proofs.YtpbljjbhfhfmgaaGreatDoor
set_option maxRecDepth 100000
open Go.RowKit
set_option linter.unusedVariables false
set_option linter.unusedSimpArgs false
set_option maxRecDepth 100000

theorem inG_t {g : Lg} {line : Int} (h : g.first ≤ line ∧ line < g.first + 2 * g.room) : inG g line = true := decide_eq_true h
theorem inG_f {g : Lg} {line : Int} (h : ¬ (g.first ≤ line ∧ line < g.first + 2 * g.room)) : inG g line = false := decide_eq_false h
theorem mineG_f {g : Lg} {line : Int} (h : rightG g 4096 = false) : mineG g line = false := by simp [mineG, h]
theorem mineG_t {g : Lg} {line : Int} (h : rightG g 4096 = true) : mineG g line = (decide (line = g.mark) || inG g line) := by simp [mineG, h]
end Go.Proofs.YtpbljjbhfhfmgaaGreatDoor
