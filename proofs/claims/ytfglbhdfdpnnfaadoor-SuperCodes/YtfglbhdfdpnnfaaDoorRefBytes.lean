/- joistref01.Bytes by its contract. -/
import Derived.Test.YtfglbhdfdpnnfaaDoorClone
namespace Go.Proofs.YtfglbhdfdpnnfaaDoor
set_option maxRecDepth 100000
open Go.RowKit

theorem bytes_any (x : Int) (w : World) (hx0 : 0 ≤ x) (hx : x ≤ 4611686018427387903) :
    Calls Tryd.prog 36 #[.int .i64 x] w fun e w' => ∃ g cap', e = .returned (.slice (some ⟨g, 0, none⟩) 8 cap') ∧ Own .u8 5 w.heap.size w' (some ⟨g, 0, none⟩) 8 cap' (bys x 8) ∧ Below w.heap.size w w' := by
  obtain ⟨i0, hi, hz0, hz1, hz2⟩ := info_parts Tryd.info5
  go_enter Tryd.func36, Tryd.ntmps36
  go_wp2
  go_loopw [0, 3, 4] (fun p q i wr => ∃ (k : Nat) (bo : Option Addr) (c : Nat), k ≤ 8 ∧ i = .int .i64 k ∧ p = .int .i64 (x / 256 ^ k) ∧ q = .slice bo k c ∧ Own .u8 5 w.heap.size wr bo k c (bys x k) ∧ Below w.heap.size w wr) (fun _ _ i _ => 8 - (intOf i).toNat)
  case atStart => exact ⟨0, none, 0, Nat.zero_le _, rfl, by simp, rfl, own_nil _ _ _ _, Below.refl _ _⟩
  case round =>
    obtain ⟨k, bo, c, hk, rfl, rfl, rfl, ho, hb⟩ := hrel
    by_cases hlt : k < 8
    · have hq := quo_bound hx0 hx k
      have HB : Hid (byt x k = x / 256 ^ k % 256) := rfl
      have HN : Hid (x / 256 ^ k / 256 = x / 256 ^ (k + 1)) := quo_succ x k
      have HW : Hid (bys x (k + 1) = bys x k ++ [byt x k]) := bys_succ x k
      generalize x / 256 ^ k = y at *
      go_wp2_with (at_builtin; refine wpList_append_own _ rfl _ _ 24 rfl w.heap.size 5 i0 (.int .u8 0) 1 1 Tryd.underlying24 hi hz0 hz1 hz2 rfl (by decide) _ _ _ rfl (ho.row.alloc _) ⟨wr.heap.size, 0, none⟩ 1 1 [.int .u8 (y % 256)] rfl rfl ?c1 ?c2 ?c3 ?c4 ?c5 ?_)
      case c1 => exact cell_one_new _ _ _
      case c2 => intro u hu; simp at hu; subst hu; rfl
      case c3 => unfold maxLen; omega
      case c4 => omega
      case c5 => have := hb.size; simp; omega
      intro v' w1 hown' hgrow _
      obtain ⟨g, c', rfl⟩ := own_shape hown' (by omega)
      have hb' : Below w.heap.size w w1 := (hb.alloc hb.size _).grown hgrow (by have := hb.size; simp; omega) (fun b hb' => (ho.row.lt b hb').1)
      have ho' : Own .u8 5 w.heap.size w1 (some ⟨g, 0, none⟩) (k + 1) c' (bys x (k + 1)) := ⟨bys_length _ _, by rw [HW.out, List.map_append, HB.out]; exact hown'⟩
      clear hown' hgrow ho
      go_wp2
      go_roundw
      case rel => exact ⟨k + 1, some ⟨g, 0, none⟩, c', by omega, by go_num, by rw [HN.out], rfl, ho', hb'⟩
      case measure => simp [intOf]; omega
    · obtain rfl : k = 8 := by omega
      obtain ⟨g, c', e⟩ := own_shape ho.row (by omega)
      simp only [Value.slice.injEq] at e
      obtain ⟨rfl, _, rfl⟩ := e
      go_wp2
      go_ret
      exact ⟨g, c, rfl, ho, hb⟩

end Go.Proofs.YtfglbhdfdpnnfaaDoor
