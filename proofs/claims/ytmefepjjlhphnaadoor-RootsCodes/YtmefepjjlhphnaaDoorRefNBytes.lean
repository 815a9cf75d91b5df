/- joistref06.Bytes by its contract. -/
import Derived.Test.YtmefepjjlhphnaaDoorRefNames
import Derived.Test.YtmefepjjlhphnaaDoorMgM
namespace Go.Proofs.YtmefepjjlhphnaaDoor
set_option maxRecDepth 100000
open Go.RowKit
set_option linter.unusedVariables false
set_option linter.unusedSimpArgs false

/-- So many bytes laid. -/
def padk (l : List UInt8) (k : Nat) : List Int := nums (l.take k) ++ List.replicate (16 - k) 0
theorem padk_full {l : List UInt8} : padk l l.length = pad l := by unfold padk pad; rw [List.take_of_length_le (Nat.le_refl _)]
theorem padk_zero (l : List UInt8) : padk l 0 = List.replicate 16 0 := rfl
theorem padk_set (l : List UInt8) (k : Nat) (hk : k < l.length) (h16 : l.length ≤ 16) : (padk l k).set k ((l.getD k 0).toNat : Int) = padk l (k + 1) := by
  have h1 : (nums (l.take k)).length = k := by rw [nums_length, List.length_take]; omega
  unfold padk
  rw [List.set_append_right _ _ (by omega), h1, Nat.sub_self, show 16 - k = (16 - (k + 1)) + 1 by omega, List.replicate_succ, List.set_cons_zero]
  rw [List.take_add_one, List.getElem?_eq_getElem hk]
  have e : l.getD k 0 = l[k] := by rw [List.getD_eq_getElem?_getD, List.getElem?_eq_getElem hk]; rfl
  rw [e]
  unfold nums
  rw [List.map_append, List.append_assoc]
  rfl
theorem padk_length (l : List UInt8) (k : Nat) (hk : k ≤ l.length) (h16 : l.length ≤ 16) : (padk l k).length = 16 := by
  unfold padk
  rw [List.length_append, nums_length, List.length_take, List.length_replicate]
  omega

theorem own16 {w : World} {g : Nat} {l : List UInt8} (h : Hid (w.heap[g]? = some (.cells (List.replicate 16 (Value.int .u8 0)).toArray 5 (0, 0)))) : Own .u8 5 g w (some ⟨g, 0, none⟩) 16 16 (padk l 0) := by
  rw [padk_zero]
  exact ⟨by simp, by simp, Or.inr ⟨g, 16, _, rfl, Nat.le_refl _, h, Nat.le_refl _, by decide, by simp, by simp⟩⟩
set_option maxRecDepth 100000
theorem refBytes_bad (s : ByteArray) (w : World) (hs : s.size ≤ 9223372036854775807) (h : okS s.data.toList = false) :
    Calls Tryd.prog 23 #[.string s] w fun e w' => e = .returned (.tuple #[.slice none 0 0, .int .i64 3]) ∧ w = w' := by
  have hne : s.data.toList ≠ [] := fun e => by rw [e] at h; exact absurd h (by decide)
  rw [okS_ne hne] at h
  have hq := eqb_ne hne
  have he := emp_f hq
  have c10 := fun w => refRight_any s w hs
  rw [h] at c10
  clear hne
  go_enter Tryd.func23, Tryd.ntmps23
  go_wp2_with (first | (go_at_call 41; with_reducible refine (c10 _).mono ?_; rintro e w1 ⟨rfl, rfl⟩))
  go_ret2
  exact ⟨rfl, rfl⟩
theorem refBytes_ok (s : ByteArray) (w : World) (hs : s.size ≤ 9223372036854775807) (h : okS s.data.toList = true) :
    Calls Tryd.prog 23 #[.string s] w fun e w' => ∃ g, e = .returned (.tuple #[.slice (some ⟨g, 0, none⟩) 16 16, .int .i64 0]) ∧ Own .u8 5 w.heap.size w' (some ⟨g, 0, none⟩) 16 16 (pad s.data.toList) ∧ Below w.heap.size w w' := by
  obtain ⟨i0, hi, hz0, hz1, hz2⟩ := info_parts Tryd.info5
  have h16 : s.size ≤ 16 := (okS_le h).1
  have c10 := fun w => refRight_any s w hs
  by_cases hl : s.data.toList = []
  · have hq := eqb_nil hl
    have he := emp_t hq
    clear hl h
    go_enter Tryd.func23, Tryd.ntmps23
    go_wp2_with (first
      | (go_at_call 41; with_reducible refine (c10 _).mono ?_; rintro e w1 ⟨rfl, rfl⟩)
      | (at_make; refine wpList_make_some _ rfl _ _ 23 rfl 5 i0 (.int .u8 0) Tryd.underlying23 hi hz0 hz1 rfl .i64 .i64 _ _ 16 16 rfl rfl rfl rfl (by omega) (by rw [hz2]; omega) (by unfold maxLen; omega) ?_; intro w2 HG1 hb1))
    go_loopw [6] (fun t wr => ∃ k : Nat, k ≤ s.size ∧ t = .int .i64 k ∧ Own .u8 5 w.heap.size wr (some ⟨w.heap.size, 0, none⟩) 16 16 (padk s.data.toList k) ∧ Below w.heap.size w wr) (fun t _ => s.size - (intOf t).toNat)
    case atStart => exact ⟨0, Nat.zero_le _, rfl, own16 HG1, hb1⟩
    case round =>
      obtain ⟨k, hk, rfl, ho, hb⟩ := hrel
      by_cases hlt : k < s.size
      · have hlt' : (k : Int) < s.size := by omega
        have ek := get_at' s k hlt
        have hset := padk_set s.data.toList k hlt h16
        obtain ⟨z, hz⟩ : ∃ z, (s.data.toList.getD k 0).toNat = z := ⟨_, rfl⟩
        rw [hz] at ek hset
        have HS : Hid ((padk s.data.toList k).set k (z : Int) = padk s.data.toList (k + 1)) := hset
        have hcell := ho.at k (by omega) rfl
        have hfr := ho.row.frozenAt k
        obtain ⟨y, hy⟩ : ∃ y, (padk s.data.toList k).getD k 0 = y := ⟨_, rfl⟩
        rw [hy] at hcell
        have HO : Hid (Own .u8 5 w.heap.size wr (some ⟨w.heap.size, 0, none⟩) 16 16 (padk s.data.toList k)) := ho
        clear ho hset hz hy
        go_wp2
        go_roundw
        case rel =>
          have hst := HO.out.set k (z : Int)
          rw [HS.out] at hst
          exact ⟨k + 1, by omega, by go_num, hst, hb.setCell (Nat.le_refl _) _⟩
        case measure => simp [intOf]; omega
      · have hlt' : ¬ (k : Int) < s.size := by omega
        have hk2 : Hid (padk s.data.toList k = pad s.data.toList) := by
          have e : k = s.data.toList.length := by show k = s.size; omega
          show padk _ _ = _
          rw [e]; exact padk_full
        go_wp2
        go_ret2
        rw [hk2.out] at ho
        exact ⟨_, rfl, ho, hb⟩
  · have hq := eqb_ne hl
    have he := emp_f hq
    rw [okS_ne hl] at h
    rw [h] at c10
    clear hl h
    go_enter Tryd.func23, Tryd.ntmps23
    go_wp2_with (first
      | (go_at_call 41; with_reducible refine (c10 _).mono ?_; rintro e w1 ⟨rfl, rfl⟩)
      | (at_make; refine wpList_make_some _ rfl _ _ 23 rfl 5 i0 (.int .u8 0) Tryd.underlying23 hi hz0 hz1 rfl .i64 .i64 _ _ 16 16 rfl rfl rfl rfl (by omega) (by rw [hz2]; omega) (by unfold maxLen; omega) ?_; intro w2 HG1 hb1))
    go_loopw [6] (fun t wr => ∃ k : Nat, k ≤ s.size ∧ t = .int .i64 k ∧ Own .u8 5 w.heap.size wr (some ⟨w.heap.size, 0, none⟩) 16 16 (padk s.data.toList k) ∧ Below w.heap.size w wr) (fun t _ => s.size - (intOf t).toNat)
    case atStart => exact ⟨0, Nat.zero_le _, rfl, own16 HG1, hb1⟩
    case round =>
      obtain ⟨k, hk, rfl, ho, hb⟩ := hrel
      by_cases hlt : k < s.size
      · have hlt' : (k : Int) < s.size := by omega
        have ek := get_at' s k hlt
        have hset := padk_set s.data.toList k hlt h16
        obtain ⟨z, hz⟩ : ∃ z, (s.data.toList.getD k 0).toNat = z := ⟨_, rfl⟩
        rw [hz] at ek hset
        have HS : Hid ((padk s.data.toList k).set k (z : Int) = padk s.data.toList (k + 1)) := hset
        have hcell := ho.at k (by omega) rfl
        have hfr := ho.row.frozenAt k
        obtain ⟨y, hy⟩ : ∃ y, (padk s.data.toList k).getD k 0 = y := ⟨_, rfl⟩
        rw [hy] at hcell
        have HO : Hid (Own .u8 5 w.heap.size wr (some ⟨w.heap.size, 0, none⟩) 16 16 (padk s.data.toList k)) := ho
        clear ho hset hz hy
        go_wp2
        go_roundw
        case rel =>
          have hst := HO.out.set k (z : Int)
          rw [HS.out] at hst
          exact ⟨k + 1, by omega, by go_num, hst, hb.setCell (Nat.le_refl _) _⟩
        case measure => simp [intOf]; omega
      · have hlt' : ¬ (k : Int) < s.size := by omega
        have hk2 : Hid (padk s.data.toList k = pad s.data.toList) := by
          have e : k = s.data.toList.length := by show k = s.size; omega
          show padk _ _ = _
          rw [e]; exact padk_full
        go_wp2
        go_ret2
        rw [hk2.out] at ho
        exact ⟨_, rfl, ho, hb⟩
end Go.Proofs.YtmefepjjlhphnaaDoor
