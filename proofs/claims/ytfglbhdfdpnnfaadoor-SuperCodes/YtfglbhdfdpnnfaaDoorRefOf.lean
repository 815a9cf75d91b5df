/- joistref01.Of by its contract. -/
import Derived.Test.YtfglbhdfdpnnfaaDoorRefBytes
import Derived.Test.YtfglbhdfdpnnfaaDoorClone
import Derived.Test.YtfglbhdfdpnnfaaDoorLay
namespace Go.Proofs.YtfglbhdfdpnnfaaDoor
set_option maxRecDepth 100000
open Go.RowKit

theorem refof_any (ao : Option Addr) (n cap : Nat) (ls : List Int) (w : World) (h : Sl .i64 w ao n cap ls) (hn : n * 8 ≤ 140737488355328) :
    Calls Tryd.prog 23 #[.slice ao n cap] w fun e w' => ∃ ao' m cap', e = .returned (.tuple #[.slice ao' m cap', .int .i64 (ofE ls)]) ∧
      Own .u8 5 w.heap.size w' ao' m cap' (ofR ls) ∧ Below w.heap.size w w' := by
  have hlen := h.len
  obtain ⟨i0, hi, hz0, hz1, hz2⟩ := info_parts Tryd.info5
  go_enter Tryd.func23, Tryd.ntmps23
  go_wp2
  go_loopw [4, 5] (fun q i wr => ∃ (k : Nat) (bo : Option Addr) (c : Nat), k ≤ n ∧ i = .int .i64 k ∧ okL (ls.take k) = true ∧ q = .slice bo (k * 8) c ∧ Own .u8 5 w.heap.size wr bo (k * 8) c (ofL (ls.take k)) ∧ Below w.heap.size w wr) (fun _ i _ => n - (intOf i).toNat)
  case atStart => exact ⟨0, none, 0, Nat.zero_le _, rfl, rfl, rfl, own_nil _ _ _ _, Below.refl _ _⟩
  case round =>
    obtain ⟨k, bo, c, hk, rfl, hok, rfl, ho, hb⟩ := hrel
    have HK : Hid (okL (ls.take k) = true) := hok
    clear hok
    by_cases hlt : k < n
    · obtain ⟨b, off, rfl, hbl, hc⟩ := h.here (by omega)
      obtain ⟨x, hx⟩ : ∃ x, ls.getD k 0 = x := ⟨_, rfl⟩
      have hcell : wr.cell? ⟨b, off + k, none⟩ = some (.int .i64 x) := by rw [hb.cell (p := ⟨b, off + k, none⟩) hbl, hc k hlt, hx]
      have HS : Hid (okL (ls.take (k + 1)) = (okL (ls.take k) && fitB x)) := by rw [← hx]; exact okL_succ ls k (by omega)
      have HF : Hid (fitB x = false → okL ls = false) := by rw [← hx]; exact okL_false ls k (by omega)
      have HP : Hid (ofL (ls.take (k + 1)) = ofL (ls.take k) ++ bys x 8) := by rw [take_succ' ls k (by omega), ofL_snoc, ← hx]; rfl
      clear hc h hx
      by_cases hx0 : 0 ≤ x
      · by_cases hx1 : x ≤ 4611686018427387903
        · have d4 : k * 8 + 8 ≤ maxLen := by unfold maxLen; omega
          have d5 : (k * 8 + 8) * 1 ≤ 140737488355328 := by omega
          go_wp2_with (first
            | (go_at_call 36; refine (bytes_any x _ hx0 hx1).mono ?_; rintro e w2 ⟨g2, c2, rfl, hown2, hb2⟩; have ho' := ho.below hb2; have hbb := next hb hb2)
            | (at_builtin; refine wpList_append_own _ rfl _ _ 24 rfl w.heap.size 5 i0 (.int .u8 0) 1 1 Tryd.underlying24 hi hz0 hz1 hz2 rfl (by decide) _ _ _ rfl ho'.row ⟨g2, 0, none⟩ 8 c2 ((bys x 8).map (Value.int .u8)) rfl rfl (hown2.row.cells rfl) (ints_oneCell _ _) d4 d5 hbb.size ?_))
          intro v3 w3 ho3 hg3 _
          obtain ⟨g3, c3, rfl⟩ := own_shape ho3 (by omega)
          have hb3 : Below w.heap.size w w3 := hbb.grown hg3 hbb.size (fun b hb => (ho'.row.lt b hb).1)
          have own3 : Own .u8 5 w.heap.size w3 (some ⟨g3, 0, none⟩) (k * 8 + 8) c3 (ofL (ls.take (k + 1))) := ⟨by rw [ofL_length, List.length_take]; omega, by rw [HP.out, List.map_append]; exact ho3⟩
          clear ho3 hg3 hown2 hb2 hbb ho ho'
          go_wp2
          go_roundw
          case rel => exact ⟨k + 1, some ⟨g3, 0, none⟩, c3, by omega, by go_num, by rw [HS.out, HK.out, fitB_t hx0 hx1]; rfl, by rw [Nat.add_mul], by rw [Nat.add_mul]; exact own3, hb3⟩
          case measure => simp [intOf]; omega
        · have hf := HF.out (fitB_f (by omega))
          have HF' : Hid (okL ls = false) := hf
          clear hf
          go_wp2
          go_ret2
          exact ⟨none, 0, 0, by rw [ofE_f HF'.out]; rfl, by rw [ofR_f HF'.out]; exact own_nil _ _ _ _, hb⟩
      · have HF' : Hid (okL ls = false) := HF.out (fitB_f (by omega))
        go_wp2
        go_ret2
        exact ⟨none, 0, 0, by rw [ofE_f HF'.out]; rfl, by rw [ofR_f HF'.out]; exact own_nil _ _ _ _, hb⟩
    · obtain rfl : k = n := by omega
      have HA : Hid (okL ls = true) := by have := HK.out; rwa [List.take_of_length_le (by omega)] at this
      rw [List.take_of_length_le (by omega)] at ho
      go_wp2
      go_ret2
      exact ⟨_, _, _, by rw [ofE_t HA.out]; rfl, by rw [ofR_t HA.out]; exact ho, hb⟩
end Go.Proofs.YtfglbhdfdpnnfaaDoor
