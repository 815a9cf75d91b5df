/- words.Of by its contract. -/
import Derived.Test.YtfglbhdfdpnnfaaDoorClone
import Derived.Test.YtfglbhdfdpnnfaaDoorLay
namespace Go.Proofs.YtfglbhdfdpnnfaaDoor
set_option maxRecDepth 100000
open Go.RowKit

theorem of_any (ao : Option Addr) (n cap : Nat) (ls : List Int) (w : World) (h : Sl .i64 w ao n cap ls) (hn : n * 8 ≤ 140737488355328) :
    Calls Tryd.prog 20 #[.slice ao n cap] w fun e w' => ∃ ao' m cap', e = .returned (.tuple #[.slice ao' m cap', .int .i64 (ofE ls)]) ∧
      Own .u8 5 w.heap.size w' ao' m cap' (ofR ls) ∧ Below w.heap.size w w' := by
  have hlen := h.len
  obtain ⟨i0, hi, hz0, hz1, hz2⟩ := info_parts Tryd.info5
  go_enter Tryd.func20, Tryd.ntmps20
  go_wp2_with (at_make; refine wpList_make_full _ rfl _ _ 24 rfl w.heap.size 5 i0 (.int .u8 0) 1 Tryd.underlying24 hi hz0 hz1 .i64 .i64 _ _ (n * 8) rfl rfl (by simp) (by simp) ?b2 ?b3 ?b4 ?_)
  case b2 => rw [hz2]; omega
  case b3 => unfold maxLen; omega
  case b4 => exact Nat.le_refl _
  intro w1 hown hgrow
  have hmade : (madeCells #[Value.int .u8 0] (n * 8)).toList = (ofk ls 0).map (Value.int .u8) := by rw [toList_madeCells_one, ofk_zero, hlen]; simp
  have hbel : Below w.heap.size w w1 := (Below.refl _ _).grown hgrow (Nat.le_refl _) (by intro k hk; cases hk)
  rw [hmade] at hown
  clear hmade hgrow hi hz0 hz1 hz2
  go_wp2
  go_loopw [13] (fun i wr => ∃ k : Nat, k ≤ n ∧ i = .int .i64 k ∧ okL (ls.take k) = true ∧ wr.ownsRow w.heap.size 5 1 (.slice (some ⟨w.heap.size, 0, none⟩) (n * 8) (n * 8)) (n * 8) ((ofk ls k).map (Value.int .u8)) ∧ Below w.heap.size w wr) (fun i _ => n - (intOf i).toNat)
  case atStart => exact ⟨0, Nat.zero_le _, rfl, rfl, hown, hbel⟩
  case round =>
    obtain ⟨k, hk, rfl, hok, ho, hb⟩ := hrel
    clear hown hbel
    have HK : Hid (okL (ls.take k) = true) := hok
    clear hok
    by_cases hlt : k < n
    · obtain ⟨b, off, rfl, hbl, hc⟩ := h.here (by omega)
      obtain ⟨x, hx⟩ : ∃ x, ls.getD k 0 = x := ⟨_, rfl⟩
      have hcell : wr.cell? ⟨b, off + k, none⟩ = some (.int .i64 x) := by rw [hb.cell (p := ⟨b, off + k, none⟩) hbl, hc k hlt, hx]
      have HS : Hid (okL (ls.take (k + 1)) = (okL (ls.take k) && fitB x)) := by rw [← hx]; exact okL_succ ls k (by omega)
      have HF : Hid (fitB x = false → okL ls = false) := by rw [← hx]; exact okL_false ls k (by omega)
      have HP : Hid (putk (ofk ls k) (k * 8) x 8 = ofk ls (k + 1)) := ofk_put ls k (by omega) x hx
      have hofl : (ofk ls k).length = n * 8 := by rw [ofk_length ls k (by omega), hlen]
      clear hc h hx
      by_cases hf : fitB x = true
      · obtain ⟨hx0, hx1⟩ := fitB_and hf
        go_wp2_with (first
          | (go_at_call 30; refine (fits_any _ _).mono ?_; rintro e w' ⟨rfl, rfl⟩)
          | (go_at_call 31; refine (lay_any w.heap.size _ (k * 8) (n * 8) (n * 8) _ _ (ofk ls k) x _ hx0 hx1 (by omega) (by omega) hofl ho).mono ?_; rintro e w2 ⟨rfl, ho2, hg2, hs2⟩))
        go_roundw
        case rel =>
          rw [HP.out] at ho2
          exact ⟨k + 1, by omega, by go_num, by rw [HS.out, HK.out, hf]; rfl, ho2, hb.grown hg2 hb.size (by intro b hb'; obtain rfl := Option.some.inj hb'; exact Nat.le_refl _)⟩
        case measure => simp [intOf]; omega
      · have hf' : fitB x = false := by simpa using hf
        go_wp2_with (go_at_call 30; refine (fits_any _ _).mono ?_; rintro e w' ⟨rfl, rfl⟩)
        go_ret2
        refine ⟨none, 0, 0, by rw [ofE_f (HF.out hf')]; rfl, by rw [ofR_f (HF.out hf')]; exact own_nil _ _ _ _, hb⟩
    · obtain rfl : k = n := by omega
      have hall : okL ls = true := by have := HK.out; rwa [List.take_of_length_le (by omega)] at this
      have HA : Hid (okL ls = true) := hall
      clear hall
      go_wp2
      go_ret2
      refine ⟨_, _, _, by rw [ofE_t HA.out]; rfl, ⟨by rw [ofR_t HA.out, ofL_length, hlen], ?_⟩, hb⟩
      rw [ofR_t HA.out, ← ofk_full, hlen]
      exact ho
end Go.Proofs.YtfglbhdfdpnnfaaDoor
