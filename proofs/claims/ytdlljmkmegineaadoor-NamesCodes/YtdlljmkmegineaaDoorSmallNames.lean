/- joistlaw06.small by its contract. -/
import Derived.Test.YtdlljmkmegineaaDoorNRead
import Derived.Test.YtdlljmkmegineaaDoorFoldP
namespace Go.Proofs.YtdlljmkmegineaaDoor
open Go.RowKit
set_option linter.unusedVariables false
set_option linter.unusedSimpArgs false

def sAB : ByteArray := ⟨#[97, 98]⟩
set_option maxRecDepth 100000
theorem small_any (w : World) : Calls Tryd.prog 8 #[] w fun e w' => e = .returned (.bool true) ∧ Below w.heap.size w w' := by
  have r1 : ∀ w, Calls Tryd.prog 9 #[.string ⟨#[97, 45, 49]⟩] w fun e w' => e = .returned (.bool true) ∧ Below w.heap.size w w' := fun w => by
    have h := right_any ⟨#[97, 45, 49]⟩ w (by decide)
    rwa [show nameB (⟨#[97, 45, 49]⟩ : ByteArray).data.toList = true by decide] at h
  have r2 : ∀ w, Calls Tryd.prog 9 #[.string ⟨#[195, 169]⟩] w fun e w' => e = .returned (.bool true) ∧ Below w.heap.size w w' := fun w => by
    have h := right_any ⟨#[195, 169]⟩ w (by decide)
    rwa [show nameB (⟨#[195, 169]⟩ : ByteArray).data.toList = true by decide] at h
  have r3 : ∀ w, Calls Tryd.prog 9 #[.string ⟨#[97, 32, 98]⟩] w fun e w' => e = .returned (.bool false) ∧ Below w.heap.size w w' := fun w => by
    have h := right_any ⟨#[97, 32, 98]⟩ w (by decide)
    rwa [show nameB (⟨#[97, 32, 98]⟩ : ByteArray).data.toList = false by decide] at h
  have r4 : ∀ w, Calls Tryd.prog 9 #[.string ⟨#[]⟩] w fun e w' => e = .returned (.bool false) ∧ Below w.heap.size w w' := fun w => by
    have h := right_any ⟨#[]⟩ w (by decide)
    rwa [show nameB (⟨#[]⟩ : ByteArray).data.toList = false by decide] at h
  have f1 : ∀ w, Calls Tryd.prog 11 #[.string ⟨#[97, 90, 49]⟩] w fun e w' => e = .returned (.string ⟨#[65, 90, 49]⟩) ∧ Below w.heap.size w w' := fun w => by
    have h := fold_any ⟨#[97, 90, 49]⟩ w (by decide)
    rwa [show fold (⟨#[97, 90, 49]⟩ : ByteArray).data.toList = [65, 90, 49] by decide] at h
  have hB : ∀ w, Calls Tryd.prog 14 #[.string ⟨#[97, 98]⟩] w fun e w' => ∃ g, e = .returned (.tuple #[.slice (some ⟨g, 0, none⟩) 16 16, .int .i64 0]) ∧ Own .u8 5 w.heap.size w' (some ⟨g, 0, none⟩) 16 16 (pad [97, 98]) ∧ Below w.heap.size w w' := fun w =>
    bytes_ok ⟨#[97, 98]⟩ w (by decide) (by decide)
  have hR : ∀ g w, Sl .u8 w (some ⟨g, 0, none⟩) 16 16 (pad [97, 98]) → Calls Tryd.prog 15 #[.slice (some ⟨g, 0, none⟩) 16 16] w fun e w' => e = .returned (.tuple #[.string ⟨#[97, 98]⟩, .bool true]) ∧ Below w.heap.size w w' := fun g w hs => by
    have h := read_any (some ⟨g, 0, none⟩) 16 16 (pad [97, 98]) w hs (pad_bytes _) (by decide)
    rwa [show readB (pad [97, 98]) = true by decide, show readT (pad [97, 98]) = [97, 98] by decide] at h
  go_enter Tryd.func8, Tryd.ntmps8
  go_wp2_with (first
    | (go_at_call 14; with_reducible refine (hB _).mono ?_; rintro e w1 ⟨g, rfl, own1, hb1⟩; have hs1 := own1.sl)
    | (go_at_call 15; with_reducible refine (hR _ _ hs1).mono ?_; rintro e w2 ⟨rfl, hb2⟩; clear own1 hs1)
    | (go_at_call 9; with_reducible refine (r1 _).mono ?_; rintro e w3 ⟨rfl, hb3⟩)
    | (go_at_call 9; with_reducible refine (r2 _).mono ?_; rintro e w4 ⟨rfl, hb4⟩)
    | (go_at_call 9; with_reducible refine (r3 _).mono ?_; rintro e w5 ⟨rfl, hb5⟩)
    | (go_at_call 9; with_reducible refine (r4 _).mono ?_; rintro e w6 ⟨rfl, hb6⟩)
    | (go_at_call 11; with_reducible refine (f1 _).mono ?_; rintro e w7 ⟨rfl, hb7⟩))
  go_ret
  exact ⟨rfl, next (next (next (next (next (next hb1 hb2) hb3) hb4) hb5) hb6) hb7⟩
end Go.Proofs.YtdlljmkmegineaaDoor
