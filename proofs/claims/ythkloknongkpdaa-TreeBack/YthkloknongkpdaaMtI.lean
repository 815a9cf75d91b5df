/- TreCode · SmallTre: these texts, one behind another. -/
import Derived.Test.YthkloknongkpdaaRefTreK
import Derived.Test.YthkloknongkpdaaAll
import Derived.Test.YthkloknongkpdaaTcA
import Derived.Test.YthkloknongkpdaaTcF
import Derived.Test.YthkloknongkpdaaTcG
import Derived.Test.YthkloknongkpdaaTcI
import Derived.Test.YthkloknongkpdaaTcJ
/- tree's functions by their contracts, together. -/
namespace Go.Proofs.Ythkloknongkpdaa
set_option maxRecDepth 100000
/-- From, Right, Nodes, Write, Read, Find: tfrom_sl, tright_bs, tnodes_any, twrite_bs, tread_sl, tfind_sl. -/
theorem tree_code : True := trivial
end Go.Proofs.Ythkloknongkpdaa
/- joistlaw14.small by its contract. -/
namespace Go.Proofs.Ythkloknongkpdaa
set_option maxRecDepth 100000
open Go.RowKit
set_option linter.unusedVariables false
set_option linter.unusedSimpArgs false
set_option maxRecDepth 100000

def smX : List Blk := [⟨0, 1, 1⟩, ⟨1, 2, 2⟩, ⟨3, 1, 0⟩]
theorem smX_from : fxL [0, 6, 7, -1] = smX ∧ fxB [0, 6, 7, -1] = true := by
  have h : FxOk [0, 6, 7, -1] := by
    refine ⟨by decide, fun k hk => ?_⟩
    have : k = 0 ∨ k = 1 ∨ k = 2 ∨ k = 3 := by simp at hk; omega
    rcases this with rfl | rfl | rfl | rfl <;> decide
  exact ⟨by rw [(fx_t h).1]; rfl, (fx_t h).2⟩
theorem smX_right : RightX 4 smX := by
  refine ⟨by decide, ?_⟩
  refine ⟨⟨rfl, by decide, by decide, by decide, by decide, fun _ => rfl, by decide⟩, ⟨rfl, by decide, by decide, by decide, by decide, (fun h => by cases h), by decide⟩, ⟨rfl, by decide, by decide, by decide, by decide, (fun h => by cases h), by decide⟩, rfl⟩
theorem nt_3 : ntN 3 = 1 := by
  rw [show (3 : Int) = ((3 : Nat) : Int) by rfl, nt_nat, show abv 3 = 1 by decide, ndS_le (by decide)]; rfl
theorem nt_7 : ntN 7 = 1 := by
  rw [show (7 : Int) = ((7 : Nat) : Int) by rfl, nt_nat, show abv 7 = 1 by decide, ndS_le (by decide)]; rfl
theorem nt_8 : ntN 8 = 3 := by
  rw [show (8 : Int) = ((8 : Nat) : Int) by rfl, nt_nat, show abv 8 = 2 by decide, ndS_gt (by decide), show abv 2 = 1 by decide, ndS_le (by decide)]; rfl
theorem nt_50 : ntN 50 = 11 := by
  rw [show (50 : Int) = ((50 : Nat) : Int) by rfl, nt_nat, show abv 50 = 8 by decide, ndS_gt (by decide), show abv 8 = 2 by decide, ndS_gt (by decide), show abv 2 = 1 by decide, ndS_le (by decide)]; rfl
theorem smX_room : RoomX 1 smX := ⟨by rw [show ((smX.length : Nat) : Int) = 3 by rfl, nt_3]; decide, by decide⟩
theorem smX_found : fdX 4 (wtL 4 1 smX) 2 = ⟨1, 2, 2⟩ ∧ fdXB 4 (wtL 4 1 smX) 2 = true := by
  unfold fdX fdXB
  rw [(rd_wt smX_right smX_room).2]
  have e : fnO smX 2 = some ⟨1, 2, 2⟩ := fn_at smX_right (e := 1) (by decide) ⟨by decide, by decide⟩
  rw [e]
  exact ⟨rfl, rfl⟩
theorem smKs (w : World) : Sl .i64 (w.alloc (.cells #[.int .i64 0, .int .i64 6, .int .i64 7, .int .i64 (-1)] 3)) (some ⟨w.heap.size, 0, none⟩) 4 4 [0, 6, 7, -1] := by
  refine ⟨rfl, Nat.le_refl _, (by intro h; cases h), fun _ => ⟨w.heap.size, 0, rfl, by simp, fun i hi => ?_⟩⟩
  rw [Nat.zero_add, cell_of_row _ w.heap.size i _ 3 (0, 0) (heap_alloc_new w _)]
  rcases (show i = 0 ∨ i = 1 ∨ i = 2 ∨ i = 3 by omega) with rfl | rfl | rfl | rfl <;> rfl
set_option maxHeartbeats 4000000 in
theorem smallX_any (w : World) : Calls Try.prog 9 #[] w fun e w' => e = .returned (.bool true) ∧ Below w.heap.size w w' := by
  have hbK : ∀ w : World, Below w.heap.size w (w.alloc (.cells #[.int .i64 0, .int .i64 6, .int .i64 7, .int .i64 (-1)] 3)) := fun w => (Below.refl _ _).alloc (Nat.le_refl _) _
  have cF := fun w => tfrom_sl _ 4 4 _ _ (smKs w) (by omega)
  rw [smX_from.1, smX_from.2] at cF
  have cW := fun (bo : Option Addr) (c : Nat) (w1 : World) (h : Bs w1 bo 3 c smX) => twrite_bs 4 1 bo 3 c smX w1 h (by omega)
  obtain ⟨e1, e2⟩ := wt_ok smX_right smX_room
  rw [e1] at cW
  have hwl : (wtL 4 1 smX).length = 128 := wt_len smX_right smX_room
  have hwb : Bytes (wtL 4 1 smX) := by rw [e2]; exact ofL_bytes _
  have cD := fun (bo : Option Addr) (c : Nat) (w1 : World) (h : Sl .u8 w1 bo 128 c (wtL 4 1 smX)) => tfind_sl 4 bo 128 c _ 2 (by unfold Rg; decide) w1 h hwb (by omega)
  rw [smX_found.1, smX_found.2] at cD
  have c7 := fun w => tnodes_any 7 (by omega) w
  have c8 := fun w => tnodes_any 8 (by omega) w
  have c5 := fun w => tnodes_any 50 (by omega) w
  rw [nt_7] at c7
  rw [nt_8] at c8
  rw [nt_50] at c5
  have hl3 : smX.length = 3 := rfl
  generalize wtL 4 1 smX = Z at *
  generalize smX = L at *
  clear e1 e2 hwb
  go_enter Try.func9, Try.ntmps9
  go_wp2_with (first
    | (go_at_call 10; with_reducible refine (cF _).mono ?_; rintro e w1 ⟨bo, m, c, rfl, hbs, hb1⟩; obtain rfl : m = 3 := (by have := hbs.len; omega))
    | (go_at_call 18; with_reducible refine (cW _ _ _ hbs).mono ?_; rintro e w2 ⟨bz, mz, cz, rfl, hoz, hb2⟩; obtain rfl : mz = 128 := (by have := hoz.len; omega))
    | (go_at_call 23; with_reducible refine (cD _ _ _ hoz.sl).mono ?_; rintro e w3 ⟨rfl, hb3⟩)
    | (go_at_call 16; with_reducible refine (c7 _).mono ?_; rintro e w4 ⟨rfl, hb4⟩)
    | (go_at_call 16; with_reducible refine (c8 _).mono ?_; rintro e w5 ⟨rfl, hb5⟩)
    | (go_at_call 16; with_reducible refine (c5 _).mono ?_; rintro e w6 ⟨rfl, hb6⟩))
  have b3 := next (next (next (hbK w) hb1) hb2) hb3
  have hA := b3.alloc b3.size (.cells #[.int .i64 1, .int .i64 2, .int .i64 2] 42)
  go_ret
  exact ⟨rfl, next (next (next hA hb4) hb5) hb6⟩
end Go.Proofs.Ythkloknongkpdaa
