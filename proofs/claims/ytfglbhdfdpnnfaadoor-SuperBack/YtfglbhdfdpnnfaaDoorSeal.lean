/- crc.Seal by its contract. -/
import Derived.Test.YtfglbhdfdpnnfaaDoorCat
import Derived.Test.YtfglbhdfdpnnfaaDoorOf
import Derived.Test.YtfglbhdfdpnnfaaDoorStep
namespace Go.Proofs.YtfglbhdfdpnnfaaDoor
set_option maxRecDepth 100000
open Go.RowKit

theorem of_one (ao : Option Addr) (cap : Nat) (x : Int) (w : World) (h : Sl .i64 w ao 1 cap [x]) (hx : fitB x = true) :
    Calls Tryd.prog 20 #[.slice ao 1 cap] w fun e w' => ∃ bo c, e = .returned (.tuple #[.slice bo 8 c, .int .i64 0]) ∧ Own .u8 5 w.heap.size w' bo 8 c (bys x 8) ∧ Below w.heap.size w w' := by
  refine (of_any ao 1 cap [x] w h (by omega)).mono ?_
  rintro e w' ⟨bo, m, c, rfl, hown, hbel⟩
  have hk : okL [x] = true := by simp [okL, hx]
  rw [ofR_t hk] at hown
  rw [ofE_t hk]
  have hL : ofL [x] = bys x 8 := by simp [ofL]
  rw [hL] at hown
  obtain rfl : m = 8 := by rw [← hown.len, bys_length]
  exact ⟨bo, c, rfl, hown, hbel⟩
theorem sl_one (w : World) (x : Int) : Sl .i64 (w.alloc (.cells #[.int .i64 x] 3)) (some ⟨w.heap.size, 0, none⟩) 1 1 [x] := by
  refine ⟨rfl, Nat.le_refl _, (by intro h; cases h), fun _ => ⟨_, _, rfl, by simp, fun i hi => ?_⟩⟩
  obtain rfl : i = 0 := by omega
  simp
theorem sum_fits {zs : List Int} (hb : Bytes zs) : fitB ((sumN 0 zs : Nat) : Int) = true := by
  have := sumN_lt (s := 0) (by omega) hb
  exact fitB_t (by omega) (by omega)

theorem seal_any (ao : Option Addr) (n cap : Nat) (zs : List Int) (w : World) (hsl : Sl .u8 w ao n cap zs) (hb : Bytes zs) (hn : n + 8 ≤ 140737488355328) :
    Calls Tryd.prog 21 #[.slice ao n cap] w fun e w' => ∃ bo c, e = .returned (.slice bo (n + 8) c) ∧ Own .u8 5 w.heap.size w' bo (n + 8) c (zs ++ bys (sumN 0 zs : Nat) 8) ∧ Below w.heap.size w w' := by
  have hf := sum_fits hb
  have hn0 : n ≤ 140737488355328 := by omega
  generalize hS : sumN 0 zs = s at *
  go_enter Tryd.func21, Tryd.ntmps21
  go_wp2_with (first
    | (go_at_call 32; refine (sum_any _ _ _ zs _ hsl hb hn0).mono ?_; rintro e w' ⟨rfl, rfl⟩; rw [hS]; have h1 := sl_one w s; have b1 : Below w.heap.size w (w.alloc (.cells #[.int .i64 s] 3)) := (Below.refl _ _).alloc (Nat.le_refl _) _)
    | (go_at_call 20; refine (of_one _ _ s _ h1 hf).mono ?_; rintro e w2 ⟨bo, c, rfl, hown, hbel⟩; have b2 := next b1 hbel; have b3 : Below w2.heap.size w2 (w2.alloc (.cells #[.slice ao n cap, .slice bo 8 c] 24)) := (Below.refl _ _).alloc (Nat.le_refl _) _; have s0 := (hsl.below b2).below b3; have s1 := (hown.below b3).sl)
    | (go_at_call 33; refine (concat_two _ _ _ _ _ _ _ _ zs (bys s 8) _ (by simp) (by simp) (by simp) s0 s1 hn).mono ?_; rintro e w4 ⟨bo', c', rfl, hown', hbel'⟩))
  go_ret
  exact ⟨bo', c', rfl, hown'.mono (next b2 b3).size, next (next b2 b3) hbel'⟩
end Go.Proofs.YtfglbhdfdpnnfaaDoor
