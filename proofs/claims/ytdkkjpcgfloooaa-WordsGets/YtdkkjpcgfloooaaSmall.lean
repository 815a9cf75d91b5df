/- joistlaw01.small by its contract: it answers true. -/
import Derived.Test.YtdkkjpcgfloooaaOf
import Derived.Test.YtdkkjpcgfloooaaGet
namespace Go.Proofs.Ytdkkjpcgfloooaa
open Go.RowKit

theorem of_two (ao : Option Addr) (cap : Nat) (w : World) (h : Sl .i64 w ao 2 cap [1, 258]) :
    Calls Try.prog 20 #[.slice ao 2 cap] w fun e w' => ∃ b off cap', e = .returned (.tuple #[.slice (some ⟨b, off, none⟩) 16 cap', .int .i64 0]) ∧
      Sl .u8 w' (some ⟨b, off, none⟩) 16 cap' [1, 0, 0, 0, 0, 0, 0, 0, 2, 1, 0, 0, 0, 0, 0, 0] ∧ Below w.heap.size w w' := by
  refine (of_any ao 2 cap [1, 258] w h (by omega)).mono ?_
  rintro e w' ⟨ao', m, cap', rfl, hown, hbel⟩
  have hR : ofR [1, 258] = [1, 0, 0, 0, 0, 0, 0, 0, 2, 1, 0, 0, 0, 0, 0, 0] := by decide
  have hE : ofE [1, 258] = 0 := by decide
  rw [hR] at hown
  rw [hE]
  obtain rfl : m = 16 := hown.len.symm
  obtain ⟨b, off, rfl, _, _⟩ := hown.sl.here (by omega)
  exact ⟨b, off, cap', rfl, hown.sl, hbel⟩

theorem small_any (w : World) : Calls Try.prog 9 #[] w fun e w' => e = .returned (.bool true) ∧ Below w.heap.size w w' := by
  have hs : Sl .i64 (w.alloc (.cells #[.int .i64 1, .int .i64 258] 3)) (some ⟨w.heap.size, 0, none⟩) 2 2 [1, 258] := by
    refine ⟨rfl, Nat.le_refl _, fun _ => ⟨_, _, rfl, by simp, fun i hi => ?_⟩⟩
    match i, hi with
    | 0, _ => simp
    | 1, _ => simp
  have n1 : getN [1, 0, 0, 0, 0, 0, 0, 0, 2, 1, 0, 0, 0, 0, 0, 0] 1 = 258 := by decide
  have b1 : getB [1, 0, 0, 0, 0, 0, 0, 0, 2, 1, 0, 0, 0, 0, 0, 0] 1 = true := by decide
  have b2 : getB [1, 0, 0, 0, 0, 0, 0, 0, 2, 1, 0, 0, 0, 0, 0, 0] 2 = false := by decide
  have hstr : (strOfNums [1, 0, 0, 0, 0, 0, 0, 0, 2, 1, 0, 0, 0, 0, 0, 0]).toList = [1, 0, 0, 0, 0, 0, 0, 0, 2, 1, 0, 0, 0, 0, 0, 0] := by rw [Lib.strOfNums_toList]; decide
  have hby : Bytes [1, 0, 0, 0, 0, 0, 0, 0, 2, 1, 0, 0, 0, 0, 0, 0] := by unfold Bytes; decide
  go_enter Try.func9, Try.ntmps9
  go_wp2_with (first
    | (go_at_call 20; refine (of_two _ _ _ hs).mono ?_; rintro e w1 ⟨b, off, cap', rfl, hsl, hbel⟩; have hcv := run_convert_bytes_arg (P := Try.prog) w1 22 5 Try.underlying22 Try.underlying5 b off 16 cap' _ rfl (by obtain ⟨b', off', e, _, hc⟩ := hsl.here (by omega); cases e; exact hc) 9 Try.underlying9)
    | (go_at_call 11; refine (get_any _ _ _ _ _ _ hsl hby (by omega)).mono ?_; rintro e w' ⟨rfl, rfl⟩)
    | (go_at_call 19; refine (put_num _ _ _ _ _ _ (by omega) (by decide) (by decide)).mono ?_; rintro e w' ⟨rfl, rfl⟩)
    | (go_at_call 19; refine (put_arg _ _ _ _ _ _ (by omega) (by decide)).mono ?_; rintro e w' ⟨rfl, rfl⟩))
  go_ret
  exact ⟨rfl, ((Below.refl _ _).alloc (Nat.le_refl _) _).trans (hbel.mono (by simp))⟩
end Go.Proofs.Ytdkkjpcgfloooaa
