/- words.All by its contract. -/
import Derived.Test.YtfglbhdfdpnnfaaDoorPut
namespace Go.Proofs.YtfglbhdfdpnnfaaDoor
set_option maxRecDepth 100000
open Go.RowKit

theorem all_any (ao : Option Addr) (n cap : Nat) (zs : List Int) (w : World) (h : Sl .u8 w ao n cap zs) (hby : Bytes zs) (hn : n ≤ 140737488355328) :
    Calls Tryd.prog 35 #[.slice ao n cap] w fun e w' => ∃ ao' m cap', e = .returned (.tuple #[.slice ao' m cap', .bool (allB zs)]) ∧
      Own .i64 3 w.heap.size w' ao' m cap' (allR zs) ∧ Below w.heap.size w w' := by
  have hlen := h.len
  have hroom := h.room
  obtain ⟨i0, hi, hz0, hz1, hz2⟩ := info_parts Tryd.info3
  by_cases h8 : n % 8 = 0
  · obtain ⟨m, rfl⟩ : ∃ m, n = 8 * m := ⟨n / 8, by omega⟩
    have hm8 : (8 * m) / 8 = m := by omega
    go_enter Tryd.func35, Tryd.ntmps35
    go_wp2_with (at_make; refine wpList_make_full _ rfl _ _ 41 rfl w.heap.size 3 i0 (.int .i64 0) 1 Tryd.underlying41 hi hz0 hz1 .i64 .i64 _ _ m rfl rfl ?b0 ?b1 ?b2 ?b3 ?b4 ?_)
    case b0 => rfl
    case b1 => rfl
    case b2 => rw [hz2]; omega
    case b3 => unfold maxLen; omega
    case b4 => exact Nat.le_refl _
    intro w1 hown hgrow
    have hmade : (madeCells #[Value.int .i64 0] m).toList = (wdk zs m 0).map (Value.int .i64) := by rw [toList_madeCells_one, wdk_zero]; simp
    have hbel : Below w.heap.size w w1 := (Below.refl _ _).grown hgrow (Nat.le_refl _) (by intro k hk; cases hk)
    rw [hmade] at hown
    clear hmade hgrow hi hz0 hz1 hz2 h8
    go_wp2
    go_loopw [18] (fun i wr => ∃ k : Nat, k ≤ m ∧ i = .int .i64 k ∧ wdB zs k = true ∧ wr.ownsRow w.heap.size 3 1 (.slice (some ⟨w.heap.size, 0, none⟩) m m) m ((wdk zs m k).map (Value.int .i64)) ∧ Below w.heap.size w wr) (fun i _ => m - (intOf i).toNat)
    case atStart => exact ⟨0, Nat.zero_le _, rfl, rfl, hown, hbel⟩
    case round =>
      obtain ⟨k, hk, rfl, hok, ho, hb⟩ := hrel
      clear hown hbel
      have HK : Hid (wdB zs k = true) := hok
      clear hok
      by_cases hlt : k < m
      · obtain ⟨b, off, rfl, hbl, hc⟩ := h.here (by omega)
        have hcd : ∀ i, i < 8 * m - k * 8 → wr.cell? ⟨b, off + k * 8 + i, none⟩ = some (.int .u8 ((zs.drop (8 * k)).getD i 0)) := fun i hi => by
          rw [hb.cell (p := ⟨b, off + k * 8 + i, none⟩) hbl, Nat.add_assoc, hc (k * 8 + i) (by omega), getD_drop, Nat.mul_comm]
        have hcell : ∃ v, wr.cell? ⟨w.heap.size, k, none⟩ = some v := ⟨_, by rw [ho.cellAt k (by omega), List.getElem?_eq_getElem (by simp [wdk_length]; omega)]⟩
        obtain ⟨v, hcell⟩ := hcell
        have hfr := ho.frozenAt k
        have HO : Hid (wr.ownsRow w.heap.size 3 1 (.slice (some ⟨w.heap.size, 0, none⟩) m m) m ((wdk zs m k).map (Value.int .i64))) := ho
        have HS : Hid (wdB zs (k + 1) = (wdB zs k && wB (cut zs k))) := wdB_succ zs k
        have HF : Hid (wB (cut zs k) = false → wdB zs m = false) := wdB_false zs k m hlt
        clear hc h ho
        have hcut : List.take 8 (List.drop (8 * k) zs) = cut zs k := rfl
        by_cases hf : wB (cut zs k) = true
        · go_wp2_with (go_at_call 45; refine (load_any _ _ _ _ (zs.drop (8 * k)) _ (by omega) (by simp; omega) (hby.drop _) hcd).mono ?_; rintro e w' ⟨rfl, rfl⟩)
          go_roundw
          case rel =>
            have hst := (HO.out.stored k (.int .i64 (wN (cut zs k)))).1
            rw [← List.map_set, wdk_set] at hst
            exact ⟨k + 1, by omega, by go_num, by rw [HS.out, HK.out, hf]; rfl, hst, hb.setCell (Nat.le_refl _) _⟩
          case measure => simp [intOf]; omega
        · have hf' : wB (cut zs k) = false := by simpa using hf
          go_wp2_with (go_at_call 45; refine (load_any _ _ _ _ (zs.drop (8 * k)) _ (by omega) (by simp; omega) (hby.drop _) hcd).mono ?_; rintro e w' ⟨rfl, rfl⟩)
          go_ret2
          have hz := allB_f (zs := zs) (by rw [hlen, hm8]; exact HF.out hf')
          exact ⟨none, 0, 0, by rw [hz]; rfl, by rw [allR_f hz]; exact own_nil _ _ _ _, hb⟩
      · obtain rfl : k = m := by omega
        have HA : Hid (allB zs = true) := allB_t (by omega) (by rw [hlen, hm8]; exact HK.out)
        go_wp2
        go_ret2
        refine ⟨_, _, _, by rw [HA.out]; rfl, ⟨by rw [allR_t HA.out, wdL_length, hlen, hm8], ?_⟩, hb⟩
        rw [allR_t HA.out, hlen, hm8, ← wdk_full]
        exact ho
  · have h8' : ((n : Int) % 8 != 0) = true := by simp; omega
    go_enter Tryd.func35, Tryd.ntmps35
    go_wp2
    go_ret2
    have hf := allB_n (zs := zs) (by omega)
    exact ⟨none, 0, 0, by rw [hf]; rfl, by rw [allR_f hf]; exact own_nil _ _ _ _, Below.refl _ _⟩
end Go.Proofs.YtfglbhdfdpnnfaaDoor
