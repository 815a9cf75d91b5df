/- joistlaw02.small by its contract: it answers true. -/
import Derived.Test.YtinjgddhkmnllaaUnseal
import Derived.Lib.SlBytesConst
namespace Go.Proofs.Ytinjgddhkmnllaa
open Go.RowKit

theorem sl_cells (w : World) (zs : List Int) (fz : Nat × Nat) : Sl .u8 (w.alloc (.cells (zs.map (Value.int .u8)).toArray 5 fz)) (some ⟨w.heap.size, 0, none⟩) zs.length zs.length zs := by
  refine ⟨rfl, Nat.le_refl _, (by intro h; cases h), fun _ => ⟨_, _, rfl, by simp, fun i hi => ?_⟩⟩
  rw [Nat.zero_add, cell_of_row _ w.heap.size i _ 5 fz (heap_alloc_new _ _)]
  simp [List.getD, List.getElem?_eq_getElem hi]

def sealA : List Int := [97] ++ bys (sumN 0 [97] : Nat) 8
theorem bytes_a : Bytes [97] := by unfold Bytes; decide
theorem seal_a (ao : Option Addr) (cap : Nat) (w : World) (h : Sl .u8 w ao 1 cap [97]) :
    Calls Try.prog 15 #[.slice ao 1 cap] w fun e w' => ∃ bo c, e = .returned (.slice bo 9 c) ∧ Sl .u8 w' bo 9 c sealA ∧ Below w.heap.size w w' := by
  refine (seal_any ao 1 cap [97] w h bytes_a (by omega)).mono ?_
  rintro e w' ⟨bo, c, rfl, hown, hbel⟩
  exact ⟨bo, c, rfl, hown.sl, hbel⟩
theorem open_a (ao : Option Addr) (cap : Nat) (w : World) (h : Sl .u8 w ao 9 cap sealA) :
    Calls Try.prog 16 #[.slice ao 9 cap] w fun e w' => ∃ bo c, e = .returned (.tuple #[.slice bo 1 c, .bool true]) ∧ Sl .u8 w' bo 1 c [97] ∧ Below w.heap.size w w' := by
  refine (open_any ao 9 cap sealA w h (bytes_a.append (bys_bytes _ _)) (by omega)).mono ?_
  rintro e w' ⟨bo, m, c, rfl, hown, hbel⟩
  have hop := opB_seal bytes_a
  have h1 : opB sealA = true := hop.1
  have h2 : opR sealA = [97] := hop.2
  rw [h2] at hown
  rw [h1]
  obtain rfl : m = 1 := hown.len.symm
  exact ⟨bo, c, rfl, hown.sl, hbel⟩
theorem sum_nine (ao : Option Addr) (cap : Nat) (w : World) (h : Sl .u8 w ao 9 cap [49, 50, 51, 52, 53, 54, 55, 56, 57]) :
    Calls Try.prog 10 #[.slice ao 9 cap] w fun e w' => e = .returned (.int .i64 3421780262) ∧ w = w' := by
  have hb : Bytes [49, 50, 51, 52, 53, 54, 55, 56, 57] := by unfold Bytes; decide
  have h9 : ((sumN 0 [49, 50, 51, 52, 53, 54, 55, 56, 57] : Nat) : Int) = 3421780262 := by decide +kernel
  have := sum_any ao 9 cap _ w h hb (by omega)
  rwa [h9] at this

theorem small_any (w : World) : Calls Try.prog 8 #[] w fun e w' => e = .returned (.bool true) ∧ Below w.heap.size w w' := by
  have h1 : Sl .u8 (w.alloc (.cells #[.int .u8 97] 5 (1, 2))) (some ⟨w.heap.size, 0, none⟩) 1 1 [97] := sl_cells w [97] (1, 2)
  have b1 : Below w.heap.size w (w.alloc (.cells #[.int .u8 97] 5 (1, 2))) := (Below.refl _ _).alloc (Nat.le_refl _) _
  have hstr : (strOfNums [97]).toList = [97] := by rw [Lib.strOfNums_toList]; decide
  have kc := fun (w : World) (C : Array Value) (n c : Nat) => Lib.run_convert_bytes_const (P := Try.prog) w 22 5 C n c Try.underlying22 Try.underlying5
  go_enter Try.func8, Try.ntmps8
  go_wp2_with (first
    | (go_at_call 15; refine (seal_a _ _ _ h1).mono ?_; rintro e w2 ⟨bo, c, rfl, h2, b2⟩; have b2' := next b1 b2)
    | (go_at_call 16; refine (open_a _ _ _ h2).mono ?_; rintro e w3 ⟨bo3, c3, rfl, h3, b3⟩; have b3' := next b2' b3; have h4 : Sl .u8 (w3.alloc (.cells #[.int .u8 49, .int .u8 50, .int .u8 51, .int .u8 52, .int .u8 53, .int .u8 54, .int .u8 55, .int .u8 56, .int .u8 57] 5 (9, 10))) (some ⟨w3.heap.size, 0, none⟩) 9 9 [49, 50, 51, 52, 53, 54, 55, 56, 57] := sl_cells w3 [49, 50, 51, 52, 53, 54, 55, 56, 57] (9, 10); have b4 := b3'.alloc b3'.size (.cells #[.int .u8 49, .int .u8 50, .int .u8 51, .int .u8 52, .int .u8 53, .int .u8 54, .int .u8 55, .int .u8 56, .int .u8 57] 5 (9, 10)); have t4 := (h3.below ((Below.refl _ _).alloc (Nat.le_refl _) (.cells #[.int .u8 49, .int .u8 50, .int .u8 51, .int .u8 52, .int .u8 53, .int .u8 54, .int .u8 55, .int .u8 56, .int .u8 57] 5 (9, 10)))).text (P := Try.prog) Try.underlying22 Try.underlying5 Try.underlying9)
    | (go_at_call 10; refine (sum_nine _ _ _ h4).mono ?_; rintro e w' ⟨rfl, rfl⟩))
  go_ret
  exact ⟨rfl, b4⟩
end Go.Proofs.Ytinjgddhkmnllaa
