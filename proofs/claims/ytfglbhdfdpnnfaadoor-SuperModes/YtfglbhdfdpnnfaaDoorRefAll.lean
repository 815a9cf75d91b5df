/- joistref01.All by its contract. -/
import Derived.Test.YtfglbhdfdpnnfaaDoorRefGet
import Derived.Test.YtfglbhdfdpnnfaaDoorPut
namespace Go.Proofs.YtfglbhdfdpnnfaaDoor
set_option maxRecDepth 100000
open Go.RowKit

theorem refall_any (ao : Option Addr) (n cap : Nat) (zs : List Int) (w : World) (h : Sl .u8 w ao n cap zs) (hby : Bytes zs) (hn : n ≤ 140737488355328) :
    Calls Tryd.prog 25 #[.slice ao n cap] w fun e w' => ∃ ao' m cap', e = .returned (.tuple #[.slice ao' m cap', .bool (allB zs)]) ∧
      Own .i64 3 w.heap.size w' ao' m cap' (allR zs) ∧ Below w.heap.size w w' := by
  have hlen := h.len
  have hroom := h.room
  obtain ⟨i0, hi, hz0, hz1, hz2⟩ := info_parts Tryd.info3
  by_cases h8 : n % 8 = 0
  · obtain ⟨m, rfl⟩ : ∃ m, n = 8 * m := ⟨n / 8, by omega⟩
    have hm8 : (8 * m) / 8 = m := by omega
    clear h8
    go_enter Tryd.func25, Tryd.ntmps25
    go_wp2
    go_loopw [4, 5] (fun q i wr => ∃ (k : Nat) (bo : Option Addr) (c : Nat), k ≤ m ∧ i = .int .i64 k ∧ wdB zs k = true ∧ q = .slice bo k c ∧ Own .i64 3 w.heap.size wr bo k c (wdL zs k) ∧ Below w.heap.size w wr) (fun _ i _ => m - (intOf i).toNat)
    case atStart => exact ⟨0, none, 0, Nat.zero_le _, rfl, rfl, rfl, own_nil _ _ _ _, Below.refl _ _⟩
    case round =>
      obtain ⟨k, bo, c, hk, rfl, hok, rfl, ho, hb⟩ := hrel
      have HK : Hid (wdB zs k = true) := hok
      clear hok
      by_cases hlt : k < m
      · have t0 := h.below hb
        have hkN : getN zs k = wN (cut zs k) := by simp [getN, hlen, hasB_t (len := 8 * m) (n := (k : Int)) (by omega) (by omega)]
        have hkB : getB zs k = wB (cut zs k) := by simp [getB, hlen, hasB_t (len := 8 * m) (n := (k : Int)) (by omega) (by omega)]
        have HS : Hid (wdB zs (k + 1) = (wdB zs k && wB (cut zs k))) := wdB_succ zs k
        have HF : Hid (wB (cut zs k) = false → wdB zs m = false) := wdB_false zs k m hlt
        have HW : Hid (wdL zs (k + 1) = wdL zs k ++ [wN (cut zs k)]) := wdL_succ zs k
        clear h
        by_cases hf : wB (cut zs k) = true
        · go_wp2_with (first
            | (go_at_call 38; refine (refget_any _ _ _ zs _ _ t0 hby hn).mono ?_; rintro e w' ⟨rfl, rfl⟩)
            | (at_builtin; refine wpList_append_own _ rfl _ _ 41 rfl w.heap.size 3 i0 (.int .i64 0) 1 8 Tryd.underlying41 hi hz0 hz1 hz2 rfl (by decide) _ _ _ rfl (ho.row.alloc _) ⟨wr.heap.size, 0, none⟩ 1 1 [.int .i64 (wN (cut zs k))] rfl rfl ?c1 ?c2 ?c3 ?c4 ?c5 ?_))
          case c1 => exact cell_one_new _ _ _
          case c2 => intro u hu; simp at hu; subst hu; rfl
          case c3 => unfold maxLen; omega
          case c4 => omega
          case c5 => have := hb.size; simp; omega
          intro v' w1 hown' hgrow _
          obtain ⟨g, c', rfl⟩ := own_shape hown' (by omega)
          have hb' : Below w.heap.size w w1 := (hb.alloc hb.size _).grown hgrow (by have := hb.size; simp; omega) (fun b hb' => (ho.row.lt b hb').1)
          have ho' : Own .i64 3 w.heap.size w1 (some ⟨g, 0, none⟩) (k + 1) c' (wdL zs (k + 1)) := ⟨wdL_length _ _, by rw [HW.out, List.map_append]; exact hown'⟩
          clear hown' hgrow ho
          go_wp2
          go_roundw
          case rel => exact ⟨k + 1, some ⟨g, 0, none⟩, c', by omega, by go_num, by rw [HS.out, HK.out, hf]; rfl, rfl, ho', hb'⟩
          case measure => simp [intOf]; omega
        · have hf' : wB (cut zs k) = false := by simpa using hf
          go_wp2_with (go_at_call 38; refine (refget_any _ _ _ zs _ _ t0 hby hn).mono ?_; rintro e w' ⟨rfl, rfl⟩)
          go_ret2
          have hz := allB_f (zs := zs) (by rw [hlen, hm8]; exact HF.out hf')
          exact ⟨none, 0, 0, by rw [hz]; rfl, by rw [allR_f hz]; exact own_nil _ _ _ _, hb⟩
      · obtain rfl : k = m := by omega
        have HA : Hid (allB zs = true) := allB_t (by omega) (by rw [hlen, hm8]; exact HK.out)
        go_wp2
        go_ret2
        refine ⟨_, _, _, by rw [HA.out]; rfl, ?_, hb⟩
        rw [allR_t HA.out, hlen, hm8]
        exact ho
  · have h8' : ((n : Int) % 8 != 0) = true := by simp; omega
    go_enter Tryd.func25, Tryd.ntmps25
    go_wp2
    go_ret2
    have hf := allB_n (zs := zs) (by omega)
    exact ⟨none, 0, 0, by rw [hf]; rfl, by rw [allR_f hf]; exact own_nil _ _ _ _, Below.refl _ _⟩
end Go.Proofs.YtfglbhdfdpnnfaaDoor
