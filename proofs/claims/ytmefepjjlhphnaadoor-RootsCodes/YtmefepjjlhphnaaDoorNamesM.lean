/- Names in bytes, and back: plain facts. -/
import Derived.Test.YtmefepjjlhphnaaDoorNamed
import Derived.Test.YtmefepjjlhphnaaDoorRow
import Derived.Lib.SlTrimSet
namespace Go.Proofs.YtmefepjjlhphnaaDoor
set_option maxRecDepth 100000
open Go.RowKit
set_option linter.unusedVariables false
set_option linter.unusedSimpArgs false

/-- Bytes as numbers, and back. -/
def nums (l : List UInt8) : List Int := l.map fun b => (b.toNat : Int)
def un (zs : List Int) : List UInt8 := zs.map fun n => UInt8.ofNat n.toNat
theorem un_nums (l : List UInt8) : un (nums l) = l := by
  unfold un nums
  rw [List.map_map]
  conv => rhs; rw [← List.map_id l]
  apply List.map_congr_left
  intro b _
  simp
theorem nums_un {zs : List Int} (h : Bytes zs) : nums (un zs) = zs := by
  unfold un nums
  rw [List.map_map]
  conv => rhs; rw [← List.map_id zs]
  apply List.map_congr_left
  intro z hz
  have := h z hz
  simp
  omega
theorem nums_bytes (l : List UInt8) : Bytes (nums l) := by
  intro z hz
  obtain ⟨b, _, rfl⟩ := List.mem_map.1 hz
  have := b.toNat_lt
  omega
theorem nums_length (l : List UInt8) : (nums l).length = l.length := by simp [nums]
theorem un_length (zs : List Int) : (un zs).length = zs.length := by simp [un]
theorem un_append (a b : List Int) : un (a ++ b) = un a ++ un b := by simp [un]
theorem un_take (a : List Int) (k : Nat) : un (a.take k) = (un a).take k := by simp [un]
theorem str_un (zs : List Int) : strOfNums zs = ⟨(un zs).toArray⟩ := rfl
theorem un_getD (zs : List Int) (i : Nat) : (un zs).getD i 0 = UInt8.ofNat (zs.getD i 0).toNat := by
  simp only [un, List.getD_eq_getElem?_getD, List.getElem?_map]
  cases zs[i]? <;> rfl

/-- Sixteen bytes: the name's, and bytes 0 behind them. -/
def pad (l : List UInt8) : List Int := nums l ++ List.replicate (16 - l.length) 0
theorem pad_length {l : List UInt8} (h : l.length ≤ 16) : (pad l).length = 16 := by
  simp [pad, nums_length]; omega
theorem pad_bytes (l : List UInt8) : Bytes (pad l) := (nums_bytes l).append (fun z hz => by rw [List.mem_replicate] at hz; omega)
/-- The empty text, or a name. -/
def okS (l : List UInt8) : Bool := l.isEmpty || nameB l
theorem okS_nil : okS [] = true := rfl
theorem okS_ne {l : List UInt8} (h : l ≠ []) : okS l = nameB l := by
  cases l with
  | nil => exact absurd rfl h
  | cons _ _ => rfl
theorem okS_le {l : List UInt8} (h : okS l = true) : l.length ≤ 16 ∧ ∀ b ∈ l, b ≠ 0 := by
  by_cases hl : l = []
  · subst hl; exact ⟨Nat.zero_le _, fun b hb => by cases hb⟩
  · rw [okS_ne hl, nameB_iff] at h
    refine ⟨h.2.1, fun b hb e => ?_⟩
    have := h.2.2.big b hb
    rw [e] at this
    exact absurd this (by decide)
/-- Without the bytes 0 at the end. -/
def strip (l : List UInt8) : List UInt8 := Lib.trimRightS l [0]
theorem strip_take (l : List UInt8) (k : Nat) (hk : k ≤ l.length) (h1 : ∀ j, k ≤ j → j < l.length → l.getD j 0 = 0) (h2 : 0 < k → l.getD (k - 1) 0 ≠ 0) : strip l = l.take k := by
  refine Lib.trimRightS_take l [0] k hk (fun j b hj hb => ?_) (fun b hk0 hb => ?_)
  · have hlt := (List.getElem?_eq_some_iff.1 hb).1
    have := h1 j hj hlt
    rw [List.getD_eq_getElem?_getD, hb] at this
    simp at this
    simp [this]
  · have := h2 hk0
    rw [List.getD_eq_getElem?_getD, hb] at this
    simp at this
    simp [this]
/-- How many there are without them. -/
theorem strip_ex (l : List UInt8) : ∃ k, k ≤ l.length ∧ strip l = l.take k ∧ l = l.take k ++ List.replicate (l.length - k) 0 := by
  suffices h : ∀ m, m ≤ l.length → (∀ j, m ≤ j → j < l.length → l.getD j 0 = 0) → ∃ k, k ≤ l.length ∧ (∀ j, k ≤ j → j < l.length → l.getD j 0 = 0) ∧ (0 < k → l.getD (k - 1) 0 ≠ 0) by
    obtain ⟨k, hk, h1, h2⟩ := h l.length (Nat.le_refl _) (fun j h1 h2 => absurd h1 (by omega))
    refine ⟨k, hk, strip_take l k hk h1 h2, ?_⟩
    conv => lhs; rw [← List.take_append_drop k l]
    congr 1
    apply List.ext_getElem
    · simp
    · intro i hi hi'
      simp only [List.length_drop] at hi
      have := h1 (k + i) (by omega) (by omega)
      rw [List.getD_eq_getElem?_getD, List.getElem?_eq_getElem (by omega)] at this
      simpa using this
  intro m
  induction m with
  | zero => intro hm h; exact ⟨0, hm, h, fun h0 => absurd h0 (by omega)⟩
  | succ m ih =>
    intro hm h
    by_cases hz : l.getD m 0 = 0
    · refine ih (by omega) (fun j hj hl => ?_)
      by_cases e : j = m
      · rw [e]; exact hz
      · exact h j (by omega) hl
    · exact ⟨m + 1, hm, h, fun _ => hz⟩
theorem strip_le (l : List UInt8) : (strip l).length ≤ l.length ∧ strip l = l.take (strip l).length := by
  obtain ⟨k, hk, e, _⟩ := strip_ex l
  rw [e]
  have : (l.take k).length = k := by simp; omega
  rw [this]
  exact ⟨hk, rfl⟩
/-- What was written is read. -/
theorem strip_pad {l : List UInt8} (h : okS l = true) : strip (un (pad l)) = l := by
  obtain ⟨h16, hz⟩ := okS_le h
  have e : un (pad l) = l ++ List.replicate (16 - l.length) 0 := by
    unfold pad
    rw [un_append, un_nums]
    congr 1
    simp [un]
  rw [e, strip_take _ l.length (by simp) (fun j h1 h2 => ?_) (fun h0 => ?_)]
  · simp
  · rw [List.getD_eq_getElem?_getD, List.getElem?_append_right h1]
    cases hh : (List.replicate (16 - l.length) (0 : UInt8))[j - l.length]? with
    | none => rfl
    | some x =>
      have := List.mem_of_getElem? hh
      rw [List.mem_replicate] at this
      simp [this.2]
  · rw [List.getD_eq_getElem?_getD, List.getElem?_append_left (by omega), List.getElem?_eq_getElem (by omega)]
    exact hz _ (List.getElem_mem _)
/-- And what is read is written so. -/
theorem pad_strip {zs : List Int} (hb : Bytes zs) (h : zs.length = 16) : pad (strip (un zs)) = zs := by
  obtain ⟨k, hk, e, he⟩ := strip_ex (un zs)
  rw [un_length] at hk he
  have hl : ((un zs).take k).length = k := by rw [List.length_take, un_length]; omega
  unfold pad
  rw [e, hl]
  have h2 := congrArg nums he
  rw [nums_un hb] at h2
  refine Eq.trans ?_ h2.symm
  rw [h]
  show _ = ((un zs).take k ++ List.replicate (16 - k) 0).map _
  rw [List.map_append, List.map_replicate]
  rfl

/-- What Read answers. -/
def readB (zs : List Int) : Bool := decide (zs.length = 16) && okS (strip (un zs))
def readT (zs : List Int) : List UInt8 := if readB zs = true then strip (un zs) else []
theorem readB_len {zs : List Int} (h : ¬ zs.length = 16) : readB zs = false ∧ readT zs = [] := by
  have e : readB zs = false := by unfold readB; rw [decide_eq_false h]; rfl
  refine ⟨e, ?_⟩
  unfold readT
  rw [e]; rfl
theorem readB_eq {zs : List Int} (h : zs.length = 16) : readB zs = okS (strip (un zs)) := by unfold readB; rw [decide_eq_true h]; rfl
theorem readT_t {zs : List Int} (h : readB zs = true) : readT zs = strip (un zs) := if_pos h
theorem readT_f {zs : List Int} (h : readB zs = false) : readT zs = [] := by unfold readT; rw [h]; rfl
end Go.Proofs.YtmefepjjlhphnaaDoor
