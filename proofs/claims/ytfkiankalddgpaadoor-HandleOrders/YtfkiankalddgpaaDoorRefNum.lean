/- joistref07.Number by its contract. -/
import Derived.Test.YtfkiankalddgpaaDoorPart
import Derived.Test.YtfkiankalddgpaaDoorHandM
import Derived.Test.YtfkiankalddgpaaDoorInfo
import Derived.BigQuiet
namespace Go.Proofs.YtfkiankalddgpaaDoor
set_option maxRecDepth 100000
open Go.RowKit
set_option linter.unusedVariables false
set_option linter.unusedSimpArgs false
set_option maxRecDepth 100000

theorem dig_ext (d : Nat) (h : d < 10) : (⟨#[48, 49, 50, 51, 52, 53, 54, 55, 56, 57]⟩ : ByteArray).extract d (d + 1) = ⟨#[(48 + d).toUInt8]⟩ := by
  match d, h with
  | 0, _ => decide
  | 1, _ => decide
  | 2, _ => decide
  | 3, _ => decide
  | 4, _ => decide
  | 5, _ => decide
  | 6, _ => decide
  | 7, _ => decide
  | 8, _ => decide
  | 9, _ => decide
  | (d + 10), h => exact absurd h (by omega)
theorem numApp (s t : ByteArray) : (s ++ t).data.toList = s.data.toList ++ t.data.toList := by
  rw [ByteArray.data_append, Array.toList_append]
theorem numOf {x y : ByteArray} (h : x.data.toList = y.data.toList) : x = y := by
  cases x with | mk a => cases y with | mk b => exact congrArg ByteArray.mk (Array.ext' h)
theorem drewN_add (w : World) (a : Nat) : ∀ b, (w.drewN a).drewN b = w.drewN (a + b)
  | 0 => rfl
  | b + 1 => congrArg World.drew (drewN_add w a b)
theorem number_low (n : Nat) (w : World) (hn : n < 10) :
    Calls Tryd.prog 24 #[.int .i64 n] w fun e w' => e = .returned (.string ⟨(numL n).toArray⟩) ∧ ∃ m, w' = w.drewN m := by
  have hi : (n : Int) < 10 := by omega
  have hx := dig_ext n hn
  have hr : (⟨(numL n).toArray⟩ : ByteArray) = ⟨#[(48 + n).toUInt8]⟩ := by rw [numL_one hn]
  rw [hr]
  obtain ⟨x, hx'⟩ : ∃ x : ByteArray, ⟨#[(48 + n).toUInt8]⟩ = x := ⟨_, rfl⟩
  rw [hx'] at hx ⊢
  clear hx' hr
  go_enter Tryd.func24, Tryd.ntmps24
  go_wp2
  go_ret
  exact ⟨rfl, 0, rfl⟩
theorem number_more (n d q : Nat) (p x : ByteArray) (w : World) (hn : ¬ (n : Int) < 10) (hb : n ≤ 9223372036854775807) (hmod : (n : Int) % 10 = d) (hdiv : (n : Int) / 10 = q) (hd : d < 10) (hp : p.size ≤ 19) (hx1 : x.size = 1)
    (hx : (⟨#[48, 49, 50, 51, 52, 53, 54, 55, 56, 57]⟩ : ByteArray).extract d (d + 1) = x)
    (ih : ∀ w, Calls Tryd.prog 24 #[.int .i64 q] w fun e w' => e = .returned (.string p) ∧ ∃ m, w' = w.drewN m) :
    Calls Tryd.prog 24 #[.int .i64 n] w fun e w' => e = .returned (.string (p ++ x)) ∧ ∃ m, w' = w.drewN m := by
  have ihq : ∀ k, Calls Tryd.prog 24 #[.int .i64 q] (w.drewN k) fun e w' => e = .returned (.string p) ∧ ∃ m, w' = w.drewN m := fun k =>
    (ih (w.drewN k)).mono fun e w' ⟨h1, m, h2⟩ => ⟨h1, k + m, h2.trans (drewN_add _ _ _)⟩
  clear ih
  go_enter Tryd.func24, Tryd.ntmps24
  go_wp2
  go_quiet ((go_at_call 24; refine ihq _))
  go_wp2
  go_ret
  exact ⟨rfl, _, rfl⟩
/-- joistref07.Number. -/
theorem number_any (n : Nat) (w : World) (hb : n ≤ 9223372036854775807) :
    Calls Tryd.prog 24 #[.int .i64 n] w fun e w' => e = .returned (.string ⟨(numL n).toArray⟩) ∧ ∃ m, w' = w.drewN m := by
  by_cases hn : n < 10
  · exact number_low n w hn
  · have hl := numL_len 19 (n / 10) (by omega) (by omega)
    have h := number_more n (n % 10) (n / 10) ⟨(numL (n / 10)).toArray⟩ ⟨#[(48 + n % 10).toUInt8]⟩ w (by omega) hb (by omega) (by omega) (by omega) (by simp [ByteArray.size]; exact hl) rfl (dig_ext (n % 10) (by omega)) (fun w => number_any (n / 10) w (by omega))
    have e : (⟨(numL (n / 10)).toArray⟩ : ByteArray) ++ ⟨#[(48 + n % 10).toUInt8]⟩ = ⟨(numL n).toArray⟩ := numOf (by rw [numApp, numL_more hn])
    rwa [e] at h
  termination_by n
  decreasing_by omega
end Go.Proofs.YtfkiankalddgpaaDoor
