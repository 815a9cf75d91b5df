/- lines.isImage, count, line, copied, fits and bytes.Equal by their contracts. -/
import Derived.Test.YtfglbhdfdpnnfaaDoorPart
import Derived.Test.YtfglbhdfdpnnfaaDoorLent
namespace Go.Proofs.YtfglbhdfdpnnfaaDoor
set_option maxRecDepth 100000
open Go.RowKit

theorem text_eq {a b : List Int} (ha : Bytes a) (hb : Bytes b) : ((strOfNums a).toList == (strOfNums b).toList) = decide (a = b) := by
  rw [Lib.strOfNums_toList, Lib.strOfNums_toList]
  have key : a.map (fun z : Int => z.toNat.toUInt8) = b.map (fun z : Int => z.toNat.toUInt8) → a = b := by
    intro h
    apply List.ext_getElem?
    intro i
    have h1 := congrArg (·[i]?) h
    simp only [List.getElem?_map] at h1
    rcases e1 : a[i]? with _ | x <;> rcases e2 : b[i]? with _ | y <;> rw [e1, e2] at h1 <;> simp only [Option.map_some, Option.map_none, Option.some.injEq, reduceCtorEq] at h1 ⊢
    have hx := ha x (List.mem_of_getElem? e1)
    have hy := hb y (List.mem_of_getElem? e2)
    have h2 := congrArg UInt8.toNat h1
    simp at h2
    omega
  by_cases h : a = b
  · simp [h]
  · rw [decide_eq_false h]
    simp only [beq_eq_false_iff_ne]
    exact fun e => h (key e)

/-- Are bytes whole lines? -/
def imgB (n : Nat) : Bool := decide (n % 64 = 0)
/-- Line i. -/
def lin (zs : List Int) (i : Nat) : List Int := (zs.drop (64 * i)).take 64
def eqB (a b : List Int) : Bool := decide (a = b)
theorem eqB_t {a b : List Int} (h : a = b) : eqB a b = true := by simp [eqB, h]
theorem eqB_f {a b : List Int} (h : ¬ a = b) : eqB a b = false := by simp [eqB, h]
def fitsB (n : Int) (line : Int) (bl : Nat) : Bool := decide (0 ≤ line ∧ line < n ∧ bl = 64)
theorem fitsB_t {n line : Int} {bl : Nat} (h : fitsB n line bl = true) : 0 ≤ line ∧ line < n ∧ bl = 64 := by simpa [fitsB] using h
theorem fitsB_mk {n line : Int} {bl : Nat} (h : 0 ≤ line ∧ line < n ∧ bl = 64) : fitsB n line bl = true := by simp [fitsB, h]
theorem lin_length {zs : List Int} {i : Nat} (h : 64 * i + 64 ≤ zs.length) : (lin zs i).length = 64 := by simp [lin]; omega
theorem lin_bytes {zs : List Int} (h : Bytes zs) (i : Nat) : Bytes (lin zs i) := (h.drop _).take _

end Go.Proofs.YtfglbhdfdpnnfaaDoor
