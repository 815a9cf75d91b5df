/- Seal · RefMark · Unseal: these texts, one behind another. -/
import Derived.Test.YtpbljjbhfhfmgaaGreatDoorMxCat
import Derived.Test.YtpbljjbhfhfmgaaGreatDoorMxRefOf
import Derived.Test.YtpbljjbhfhfmgaaGreatDoorMxStep
import Derived.Test.YtpbljjbhfhfmgaaGreatDoorMxInfo
import Derived.Test.YtpbljjbhfhfmgaaGreatDoorMxLay
/- crc.Seal by its contract. -/
namespace Go.Proofs.YtpbljjbhfhfmgaaGreatDoor
set_option maxRecDepth 100000
open Go.RowKit

theorem sl_one (w : World) (x : Int) : Sl .i64 (w.alloc (.cells #[.int .i64 x] 3)) (some ⟨w.heap.size, 0, none⟩) 1 1 [x] := by
  refine ⟨rfl, Nat.le_refl _, (by intro h; cases h), fun _ => ⟨_, _, rfl, by simp, fun i hi => ?_⟩⟩
  obtain rfl : i = 0 := by omega
  simp
theorem sum_fits {zs : List Int} (hb : Bytes zs) : fitB ((sumN 0 zs : Nat) : Int) = true := by
  have := sumN_lt (s := 0) (by omega) hb
  exact fitB_t (by omega) (by omega)

end Go.Proofs.YtpbljjbhfhfmgaaGreatDoor
/- joistref02.Seal by its contract. -/
namespace Go.Proofs.YtpbljjbhfhfmgaaGreatDoor
set_option maxRecDepth 100000
open Go.RowKit

theorem made_none (w : World) : (w.alloc (.cells #[] 5)).ownsRow w.heap.size 5 1 (.slice (some ⟨w.heap.size, 0, none⟩) 0 0) 0 (([] : List Int).map (Value.int .u8)) := World.ownsRow_made w #[] 0 (Nat.le_refl _) (Nat.zero_le _) rfl

end Go.Proofs.YtpbljjbhfhfmgaaGreatDoor
/- crc.Open by its contract. -/
namespace Go.Proofs.YtpbljjbhfhfmgaaGreatDoor
set_option maxRecDepth 100000
open Go.RowKit

/-- Are these bytes sealed? What was. -/
def opB (zs : List Int) : Bool := decide (8 ≤ zs.length ∧ zs.drop (zs.length - 8) = bys (sumN 0 (zs.take (zs.length - 8)) : Nat) 8)
def opR (zs : List Int) : List Int := if opB zs then zs.take (zs.length - 8) else []
theorem opB_few {zs : List Int} (h : ¬ 8 ≤ zs.length) : opB zs = false := by simp [opB, h]
theorem opR_f {zs : List Int} (h : opB zs = false) : opR zs = [] := by simp [opR, h]
theorem opR_t {zs : List Int} (h : opB zs = true) : opR zs = zs.take (zs.length - 8) := by simp [opR, h]
theorem cut_zero {d : List Int} (h : d.length = 8) : cut d 0 = d := by
  unfold cut
  rw [Nat.mul_zero, List.drop_zero]
  exact List.take_of_length_le (by omega)
/-- As the code tells it. -/
theorem opB_code {zs : List Int} (hb : Bytes zs) (k : Nat) (hk : zs.length = k + 8) : opB zs = (getB (zs.drop k) 0 && (getN (zs.drop k) 0 == ((sumN 0 (zs.take k) : Nat) : Int))) := by
  have hl : (zs.drop k).length = 8 := by simp; omega
  have hh : hasB (zs.drop k).length 0 = true := by rw [hl]; decide
  have hd := hb.drop k
  have hf := sum_fits (hb.take k)
  have e : zs.length - 8 = k := by omega
  unfold opB
  rw [e]
  generalize sumN 0 (zs.take k) = s at *
  generalize zs.drop k = d at *
  have h8 : 8 ≤ zs.length := by omega
  have hc := cut_zero hl
  simp only [h8, true_and, getB, getN, hh, Bool.true_and, if_true, Int.toNat_zero, hc]
  rw [Bool.eq_iff_iff]
  simp only [decide_eq_true_eq, Bool.and_eq_true, beq_iff_eq]
  constructor
  · intro h
    subst h
    have := word_bys hf
    exact ⟨this.2, this.1⟩
  · rintro ⟨h1, h2⟩
    have := (bys_cut hd 0 (by omega) (by rw [hc]; exact h1)).2
    rw [hc, h2] at this
    exact this.symm
/-- What was sealed opens. -/
theorem opB_seal {zs : List Int} (_hb : Bytes zs) : opB (zs ++ bys (sumN 0 zs : Nat) 8) = true ∧ opR (zs ++ bys (sumN 0 zs : Nat) 8) = zs := by
  have hl : (zs ++ bys (sumN 0 zs : Nat) 8).length = zs.length + 8 := by simp [bys_length]
  have ht : (zs ++ bys (sumN 0 zs : Nat) 8).take zs.length = zs := by rw [List.take_append_of_le_length (Nat.le_refl _), List.take_length]
  have hd : (zs ++ bys (sumN 0 zs : Nat) 8).drop zs.length = bys (sumN 0 zs : Nat) 8 := by rw [List.drop_append, List.drop_of_length_le (Nat.le_refl _), Nat.sub_self, List.drop_zero, List.nil_append]
  have h : opB (zs ++ bys (sumN 0 zs : Nat) 8) = true := by
    unfold opB
    rw [hl, Nat.add_sub_cancel, ht, hd]
    simp
  refine ⟨h, ?_⟩
  rw [opR_t h, hl, Nat.add_sub_cancel, ht]

end Go.Proofs.YtpbljjbhfhfmgaaGreatDoor
