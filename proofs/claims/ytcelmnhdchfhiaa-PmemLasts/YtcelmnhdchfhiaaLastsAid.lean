/- 'PmemLasts': its ways out; what is sure. -/
import Derived.Test.YtcelmnhdchfhiaaLasting
import Derived.Deep.QuietTactic
import Derived.BigQuiet
import Derived.Deep.DeepCutAuto
namespace Go.Proofs.Ytcelmnhdchfhiaa
open Go.RowKit
set_option linter.unusedVariables false

set_option maxRecDepth 100000 in
theorem lasts_great (w : World) (a0 : Option Addr) (len0 cap0 : Nat) (a1 : Option Addr) (len1 cap1 : Nat) (at_ : Int) (a3 : Option Addr) (len3 cap3 : Nat) (a4 : Option Addr) (len4 cap4 : Nat) (h : 2048 < len0 ∨ 2048 < len3) (r0 : len0 ≤ 9223372036854775807) (r3 : len3 ≤ 9223372036854775807) :
    Calls Try.prog 4 #[.slice a0 len0 cap0, .slice a1 len1 cap1, .int .i64 at_, .slice a3 len3 cap3, .slice a4 len4 cap4] w fun e w' => e = .returned (.bool true) ∧ Below w.heap.size w w' := by
  by_cases h0 : 2048 < len0
  · have h1 : (2048 : Int) < len0 := by omega
    go_enter Try.func4, Try.ntmps4
    go_wp2_with (go_at_call 8; with_reducible refine (small_any _).mono ?_; rintro e w1 ⟨rfl, hb1⟩)
    go_ret
    exact ⟨rfl, hb1⟩
  · have h1 : ¬ ((2048 : Int) < len0) := by omega
    have h2 : (2048 : Int) < len3 := by omega
    go_enter Try.func4, Try.ntmps4
    go_wp2_with (go_at_call 8; with_reducible refine (small_any _).mono ?_; rintro e w1 ⟨rfl, hb1⟩)
    go_ret
    exact ⟨rfl, hb1⟩
set_option maxRecDepth 100000 in
theorem lasts_none (w : World) (a0 : Option Addr) (len0 cap0 : Nat) (hl2 : len0 ≤ 2048) (hnew : newOk len0 = false) (a1 : Option Addr) (len1 cap1 : Nat) (at_ : Int) (a3 : Option Addr) (len3 cap3 : Nat) (hl3 : len3 ≤ 2048) (a4 : Option Addr) (len4 cap4 : Nat) :
    Calls Try.prog 4 #[.slice a0 len0 cap0, .slice a1 len1 cap1, .int .i64 at_, .slice a3 len3 cap3, .slice a4 len4 cap4] w fun e w' => e = .returned (.bool true) ∧ Below w.heap.size w w' := by
  have hn1 : ¬ ((2048 : Int) < len0) := by omega
  have hn3 : ¬ ((2048 : Int) < len3) := by omega
  have hl9 : len0 ≤ 9223372036854775807 := by omega
  have cN := fun w => new_bad a0 len0 cap0 w hl9 hnew
  go_enter Try.func4, Try.ntmps4
  go_wp2_with (first
    | (go_at_call 8; with_reducible refine (small_any _).mono ?_; rintro e w1 ⟨rfl, hb1⟩)
    | (go_at_call 10; with_reducible refine (cN _).mono ?_; rintro e w2 ⟨rfl, rfl⟩))
  go_ret
  exact ⟨rfl, hb1⟩
theorem act_later' {W wr : World} {b o : Nat} {A : ActD} (h : Act1 W b o A) (hlt : b < W.heap.size) (hb : Below W.heap.size W wr) : Act1 wr b o A :=
  ⟨(hb.cell (p := ⟨b, o, none⟩) hlt).trans h.c0, (hb.cell (p := ⟨b, o + 1, none⟩) hlt).trans h.c1, (hb.cell (p := ⟨b, o + 2, none⟩) hlt).trans h.c2, (hb.cell (p := ⟨b, o + 3, none⟩) hlt).trans h.c3, (hb.cell (p := ⟨b, o + 4, none⟩) hlt).trans h.c4, h.ok.below hb⟩

/-- What the device is behind Store, Flush and Fence, and whether all was told OK. -/
structure Kept3 (w wx : World) (p : Nat) (N : Nat) (at_ : Int) (ys : List Int) (F : Nat → Prop) (T : St) (sure : Bool) : Prop where
  dev : Dev wx F p T
  n : T.n = N
  base : ∀ j, F j → w.heap.size ≤ j
  below : Below w.heap.size w wx
  sure : sure = true → 0 ≤ at_ ∧ Sure T at_.toNat ys
/-- A call that is a step, told whole. -/
theorem store_told {w : World} {F : Nat → Prop} {p : Nat} {S : St} (hd : Dev w F p S) (at_ : Int) (ao : Option Addr) (n cap : Nat) (ys : List Int) (ha : Rg at_) (hsl : Sl .u8 w ao n cap ys) (hby : Bytes ys) (hc9 : cap ≤ 9223372036854775807) (hno : 0 < n → ∀ c, ao = some c → ¬ F c.block) {E : Int} (hE : stepE S at_ n = E) :
    Calls Try.prog 16 #[.pointer (some ⟨p, 0, none⟩), .int .i64 at_, .slice ao n cap] w fun e w' => e = .returned (.int .i64 E) ∧ ∃ F', Dev w' F' p (Does (fun T => storeS T at_.toNat ys) S at_ n) ∧ Goes F w F' w' := by
  subst hE
  exact store_all hd at_ ao n cap ys ha hsl hby hc9 hno
theorem flush_told {w : World} {F : Nat → Prop} {p : Nat} {S : St} (hd : Dev w F p S) (at_ n : Int) (ha : Rg at_) (hn : Rg n) {E : Int} (hE : stepE S at_ n = E) :
    Calls Try.prog 18 #[.pointer (some ⟨p, 0, none⟩), .int .i64 at_, .int .i64 n] w fun e w' => e = .returned (.int .i64 E) ∧ Dev w' F p (Does (fun T => flushS T (lineA at_.toNat n.toNat) (lineB at_.toNat n.toNat)) S at_ n) ∧ Goes F w F w' := by
  subst hE
  exact flush_all hd at_ n ha hn
theorem fence_told {w : World} {F : Nat → Prop} {p : Nat} {S : St} (hd : Dev w F p S) {E : Int} (hE : stepE S 0 0 = E) :
    Calls Try.prog 20 #[.pointer (some ⟨p, 0, none⟩)] w fun e w' => e = .returned (.int .i64 E) ∧ Dev w' F p (Does fenceS S 0 0) ∧ Goes F w F w' := by
  subst hE
  exact fence_all hd
theorem does_ok {f : St → St} {S : St} {a n : Int} (h : stepE S a n = 0) : Does f S a n = f (stepS S a n) := by unfold Does; rw [if_pos h]
theorem sure_all {S : St} (hok : S.Ok) {at_ : Int} {n : Nat} {ys : List Int} (hn : ys.length = n) (h1 : stepE S at_ n = 0)
    (h2 : stepE (Does (fun T => storeS T at_.toNat ys) S at_ n) at_ n = 0)
    (h3 : stepE (Does (fun T => flushS T (lineA at_.toNat (n : Int).toNat) (lineB at_.toNat (n : Int).toNat)) (Does (fun T => storeS T at_.toNat ys) S at_ n) at_ n) 0 0 = 0) :
    0 ≤ at_ ∧ Sure (Does fenceS (Does (fun T => flushS T (lineA at_.toNat (n : Int).toNat) (lineB at_.toNat (n : Int).toNat)) (Does (fun T => storeS T at_.toNat ys) S at_ n) at_ n) 0 0) at_.toNat ys := by
  obtain ⟨_, q0, q1, q2⟩ := checkE_zero (stepE_zero h1)
  refine ⟨q0, ?_⟩
  rw [does_ok h3, does_ok h2, does_ok h1, Int.toNat_natCast, ← hn]
  exact sure_of hok (by omega) _ _ _ _ _ _

end Go.Proofs.Ytcelmnhdchfhiaa
