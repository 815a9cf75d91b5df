/- joistref02.goOn, Sum and Add by their contracts. -/
import Derived.Test.YtfglbhdfdpnnfaaDoorCrc
import Derived.Test.YtfglbhdfdpnnfaaDoorRow
import Derived.Test.YtfglbhdfdpnnfaaDoorRows
namespace Go.Proofs.YtfglbhdfdpnnfaaDoor
set_option maxRecDepth 100000
open Go.RowKit

theorem goOn_any (s : Nat) (ao : Option Addr) (n cap : Nat) (zs : List Int) (w : World) (hs : s < 4294967296) (hsl : Sl .u8 w ao n cap zs) (hb : Bytes zs) (hn : n ≤ 140737488355328) :
    Calls Tryd.prog 46 #[.int .i64 s, .slice ao n cap] w fun e w' => e = .returned (.int .i64 (goN s zs : Nat)) ∧ w = w' := by
  have hlen := hsl.len
  go_enter Tryd.func46, Tryd.ntmps46
  go_wp2
  go_loop [0, 5] (fun q i => ∃ k : Nat, k ≤ n ∧ i = .int .i64 k ∧ q = .int .i64 (goN s (zs.take k) : Nat)) (fun _ i => n - (intOf i).toNat)
  case atStart => exact ⟨0, Nat.zero_le _, rfl, by rw [List.take_zero, goN_nil]⟩
  case round =>
    obtain ⟨k, hk, rfl, rfl⟩ := hrel
    have hg := goN_lt hs (hb.take k)
    by_cases hlt : k < n
    · obtain ⟨b, off, rfl, -, hc⟩ := hsl.here (by omega)
      obtain ⟨z, hz⟩ : ∃ z, zs.getD k 0 = z := ⟨_, rfl⟩
      have hcell := hc k hlt
      have hzb : 0 ≤ zs.getD k 0 ∧ zs.getD k 0 ≤ 255 := hb.at k
      have HS : Hid (goN s (zs.take (k + 1)) = itr (goN s (zs.take k) ^^^ z.toNat) 8) := by rw [← hz]; exact goN_take_succ _ zs k (by omega)
      rw [hz] at hcell hzb
      generalize goN s (zs.take k) = x at *
      obtain ⟨y, rfl⟩ := Int.eq_ofNat_of_zero_le hzb.1
      have hx : bits .xor .i64 (x : Int) (y : Int) = ((x ^^^ y : Nat) : Int) := i64_xor_nat x y hg (by omega)
      have HT := HS.out
      rw [Int.toNat_natCast] at HT
      have HU : Hid (goN s (zs.take (k + 1)) = itr (x ^^^ y) 8) := HT
      have hv : x ^^^ y < 4294967296 := xor_lt hg (by omega)
      clear HT HS hz hc hsl hb
      generalize x ^^^ y = v at *
      go_wp2
      go_loop [0, 6] (fun q i => ∃ j : Nat, j ≤ 8 ∧ i = .int .i64 j ∧ q = .int .i64 (itr v j : Nat)) (fun _ i => 8 - (intOf i).toNat)
      case atStart => exact ⟨0, Nat.zero_le _, rfl, rfl⟩
      case round =>
        obtain ⟨j, hj, rfl, rfl⟩ := hrel
        by_cases hlj : j < 8
        · have HS : Hid (itr v (j + 1) = half (itr v j)) := rfl
          have hy := itr_lt hv j
          generalize itr v j = u at *
          by_cases hp : u % 2 = 1
          · have hxr : bits .xor .i64 ((u / 2 : Nat) : Int) 3988292384 = ((half u : Nat) : Int) := by
              rw [half_odd hp]
              exact i64_xor_nat (u / 2) 3988292384 (by omega) (by omega)
            have hpi : (u : Int) % 2 = 1 := by omega
            rw [show ((u / 2 : Nat) : Int) = (u : Int) / 2 by omega] at hxr
            go_wp2
            go_round
            case rel => exact ⟨j + 1, by omega, by go_num, by rw [HS.out]⟩
            case measure => simp [intOf]; omega
          · have hpi : (u : Int) % 2 = 0 := by omega
            go_wp2
            go_round
            case rel => exact ⟨j + 1, by omega, by go_num, by rw [HS.out, half_even hp]; rfl⟩
            case measure => simp [intOf]; omega
        · obtain rfl : j = 8 := by omega
          go_wp2
          go_round
          case rel => exact ⟨k + 1, by omega, by go_num, by rw [HU.out]⟩
          case measure => simp [intOf]; omega
    · obtain rfl : k = n := by omega
      have e : zs.take k = zs := List.take_of_length_le (by omega)
      rw [e] at hg ⊢
      go_wp2
      go_ret
      exact ⟨rfl, rfl⟩

theorem refsum_any (ao : Option Addr) (n cap : Nat) (zs : List Int) (w : World) (hsl : Sl .u8 w ao n cap zs) (hb : Bytes zs) (hn : n ≤ 140737488355328) :
    Calls Tryd.prog 37 #[.slice ao n cap] w fun e w' => e = .returned (.int .i64 (sumN 0 zs : Nat)) ∧ w = w' := by
  have HF : Hid (bits .xor .i64 4294967295 ((goN 4294967295 zs : Nat) : Int) = ((sumN 0 zs : Nat) : Int)) := by
    have h1 := inv_i64 (goN_lt (r := 4294967295) (by omega) hb)
    unfold sumN
    rw [inv_zero]
    exact h1
  go_enter Tryd.func37, Tryd.ntmps37
  go_wp2_with (go_at_call 46; refine (goOn_any 4294967295 _ _ _ zs _ (by omega) hsl hb hn).mono ?_; rintro e w' ⟨rfl, rfl⟩)
  go_ret
  exact ⟨by rw [HF.out]; rfl, rfl⟩

end Go.Proofs.YtfglbhdfdpnnfaaDoor
