/- lines.isImage, count, line, copied, fits and bytes.Equal by their contracts. -/
import Derived.Test.YtgiippbjieecmaaPart
import Derived.Test.YtgiippbjieecmaaLent
namespace Go.Proofs.Ytgiippbjieecmaa
open Go.RowKit

theorem text_eq {a b : List Int} (ha : Bytes a) (hb : Bytes b) : ((strOfNums a).toList == (strOfNums b).toList) = decide (a = b) := by
  rw [Lib.strOfNums_toList, Lib.strOfNums_toList]
  have key : a.map (fun z : Int => z.toNat.toUInt8) = b.map (fun z : Int => z.toNat.toUInt8) → a = b := by
    intro h
    apply List.ext_getElem?
    intro i
    have h1 := congrArg (·[i]?) h
    simp only [List.getElem?_map] at h1
    rcases e1 : a[i]? with _ | x <;> rcases e2 : b[i]? with _ | y <;> rw [e1, e2] at h1 <;> simp only [Option.map_some, Option.map_none, Option.some.injEq, reduceCtorEq] at h1 ⊢
    have hx := ha x (List.mem_of_getElem? e1)
    have hy := hb y (List.mem_of_getElem? e2)
    have h2 := congrArg UInt8.toNat h1
    simp at h2
    omega
  by_cases h : a = b
  · simp [h]
  · rw [decide_eq_false h]
    simp only [beq_eq_false_iff_ne]
    exact fun e => h (key e)

/-- Are bytes whole lines? -/
def imgB (n : Nat) : Bool := decide (n % 64 = 0)
/-- Line i. -/
def lin (zs : List Int) (i : Nat) : List Int := (zs.drop (64 * i)).take 64
def eqB (a b : List Int) : Bool := decide (a = b)
theorem eqB_t {a b : List Int} (h : a = b) : eqB a b = true := by simp [eqB, h]
theorem eqB_f {a b : List Int} (h : ¬ a = b) : eqB a b = false := by simp [eqB, h]
def fitsB (n : Int) (line : Int) (bl : Nat) : Bool := decide (0 ≤ line ∧ line < n ∧ bl = 64)
theorem fitsB_t {n line : Int} {bl : Nat} (h : fitsB n line bl = true) : 0 ≤ line ∧ line < n ∧ bl = 64 := by simpa [fitsB] using h
theorem fitsB_mk {n line : Int} {bl : Nat} (h : 0 ≤ line ∧ line < n ∧ bl = 64) : fitsB n line bl = true := by simp [fitsB, h]
theorem lin_length {zs : List Int} {i : Nat} (h : 64 * i + 64 ≤ zs.length) : (lin zs i).length = 64 := by simp [lin]; omega
theorem lin_bytes {zs : List Int} (h : Bytes zs) (i : Nat) : Bytes (lin zs i) := (h.drop _).take _

theorem isImage_any (ao : Option Addr) (n cap : Nat) (w : World) (hn : n ≤ 9223372036854775807) :
    Calls Try.prog 55 #[.slice ao n cap] w fun e w' => e = .returned (.bool (imgB n)) ∧ w = w' := by
  go_enter Try.func55, Try.ntmps55
  go_wp2
  go_ret
  refine ⟨ret_bool ?_, rfl⟩
  rw [imgB, Bool.eq_iff_iff, beq_iff_eq, decide_eq_true_eq]
  omega
theorem count_any (ao : Option Addr) (n cap : Nat) (w : World) (hn : n ≤ 9223372036854775807) :
    Calls Try.prog 57 #[.slice ao n cap] w fun e w' => e = .returned (.int .i64 (n / 64 : Nat)) ∧ w = w' := by
  go_enter Try.func57, Try.ntmps57
  go_wp2
  go_ret
  exact ⟨by simp, rfl⟩
theorem line_any (b off n cap i : Nat) (w : World) (h : 64 * i + 64 ≤ n) (hr : n ≤ cap) (hc : cap ≤ 9223372036854775807) :
    Calls Try.prog 59 #[.slice (some ⟨b, off, none⟩) n cap, .int .i64 i] w fun e w' => e = .returned (.slice (some ⟨b, off + 64 * i, none⟩) 64 (cap - 64 * i)) ∧ w = w' := by
  have h1 : (i : Int) * 64 = ((64 * i : Nat) : Int) := by omega
  have h2 : ¬ cap = 64 * i := by omega
  go_enter Try.func59, Try.ntmps59
  go_wp2
  go_ret
  have e : 64 * i + 64 - 64 * i = 64 := by omega
  rw [e]
  exact ⟨rfl, rfl⟩
theorem equal_any (ao : Option Addr) (n cap : Nat) (xs : List Int) (bo : Option Addr) (m c : Nat) (ys : List Int) (w : World) (h : Sl .u8 w ao n cap xs) (g : Sl .u8 w bo m c ys) (hx : Bytes xs) (hy : Bytes ys) :
    Calls Try.prog 71 #[.slice ao n cap, .slice bo m c] w fun e w' => e = .returned (.bool (eqB xs ys)) ∧ w = w' := by
  have hc1 := h.text (P := Try.prog) Try.underlying27 Try.underlying5 Try.underlying9
  have hc2 := g.text (P := Try.prog) Try.underlying27 Try.underlying5 Try.underlying9
  clear h g
  go_enter Try.func71, Try.ntmps71
  go_wp2
  go_ret
  exact ⟨ret_bool (text_eq hx hy), rfl⟩
theorem lfits_any (n line : Int) (ba : Option Addr) (bl bc : Nat) (w : World) :
    Calls Try.prog 56 #[.int .i64 n, .agg #[.int .i64 line, .slice ba bl bc]] w fun e w' => e = .returned (.bool (fitsB n line bl)) ∧ Below w.heap.size w w' := by
  go_enter Try.func56, Try.ntmps56
  go_wp2
  all_goals (go_ret; refine ⟨ret_bool ?_, (Below.refl _ _).alloc (Nat.le_refl _) _⟩)
  all_goals (rw [fitsB, Bool.eq_iff_iff, decide_eq_true_eq]; simp; omega)
theorem copied_any (ao : Option Addr) (n cap : Nat) (zs : List Int) (w : World) (h : Sl .u8 w ao n cap zs) (hn : n ≤ 140737488355328) :
    Calls Try.prog 58 #[.slice ao n cap] w fun e w' => e = .returned (.slice (some ⟨w.heap.size, 0, none⟩) n n) ∧ Own .u8 5 w.heap.size w' (some ⟨w.heap.size, 0, none⟩) n n zs ∧ Below w.heap.size w w' := by
  have hlen := h.len
  obtain ⟨i0, hi, hz0, hz1, hz2⟩ := info_parts Try.info5
  have hcopy : ∀ w1, Below w.heap.size w w1 → 0 < (zs.map (Value.int .u8)).length → (some (⟨w.heap.size, 0, none⟩ : Addr) = some ⟨w.heap.size, 0, none⟩) ∧ ∃ ad, ao = some ad ∧ ∀ j v, (zs.map (Value.int .u8))[j]? = some v → w1.cell? (ad.add j) = some v := fun w1 hb hp => by
    rw [List.length_map] at hp
    obtain ⟨b, off, rfl, hlt, hc⟩ := h.here (by omega)
    refine ⟨rfl, _, rfl, fun j v hv => ?_⟩
    have hj : j < zs.length := by simpa using (List.getElem?_eq_some_iff.1 hv).1
    rw [Addr.add_lit, hb.cell (p := ⟨b, off + j, none⟩) hlt, hc j (by omega)]
    simp only [List.getElem?_map, List.getElem?_eq_getElem hj, Option.map_some, Option.some.injEq] at hv
    subst hv
    simp [List.getD, List.getElem?_eq_getElem hj]
  have hmin : (zs.map (Value.int .u8)).length = Nat.min n n := by simp [hlen]
  have hfit : 0 + (zs.map (Value.int .u8)).length ≤ (List.replicate n (Value.int .u8 0)).length := by simp [hlen]
  have hspl : splice (List.replicate n (Value.int .u8 0)) 0 (zs.map (Value.int .u8)) = zs.map (Value.int .u8) := by
    simp [splice, hlen]
  go_enter Try.func58, Try.ntmps58
  go_wp2_with (first
    | (at_make; refine wpList_make_some _ rfl _ _ 27 rfl 5 i0 (.int .u8 0) Try.underlying27 hi hz0 hz1 rfl .i64 .i64 _ _ n n rfl rfl rfl rfl (Nat.le_refl _) (by rw [hz2]; omega) (by unfold maxLen; omega) ?_; intro w1 HG1 hb1)
    | (with_reducible refine wpList_copy_splice rfl (.tmp 7) (.tmp 8) 27 27 rfl 5 Try.underlying27 (by rw [hi]; simp [hz1]) _ _ _ _ _ _ rfl rfl w.heap.size 0 (List.replicate n (.int .u8 0)) 5 HG1.out (zs.map (Value.int .u8)) hmin (hcopy w1 hb1) hfit (ints_oneCell _ _) w.heap.size w hb1 (Nat.le_refl _) ?_; intro w2 HG2 hb2))
  go_ret
  have hg2 := HG2.out
  rw [hspl] at hg2
  refine ⟨rfl, ⟨hlen, by simp [hlen], Or.inr ⟨w.heap.size, n, _, rfl, Nat.le_refl _, hg2, Nat.le_refl _, by unfold maxLen; omega, by simp [hlen], by rw [Nat.mul_one, List.take_of_length_le (by simp [hlen])]⟩⟩, hb2⟩
end Go.Proofs.Ytgiippbjieecmaa
