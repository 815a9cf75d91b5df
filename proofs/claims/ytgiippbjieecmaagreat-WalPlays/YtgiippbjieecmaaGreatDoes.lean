/- pmem's Store, Flush, Fence, Crash, whatever they are asked. -/
import Derived.Test.YtgiippbjieecmaaGreatMgM
import Derived.Test.YtgiippbjieecmaaGreatMgB
namespace Go.Proofs.YtgiippbjieecmaaGreat
set_option maxRecDepth 100000
open Go.RowKit
set_option linter.unusedVariables false

theorem Slb.below {w w' : World} {ao : Option Addr} {n : Nat} {bs : List Bool} (h : Slb w ao n bs) (hb : Below w.heap.size w w') : Slb w' ao n bs := h.off (F := fun _ => False) (Off.of_below hb) (fun _ _ _ h => h)
theorem store_all {w : World} {F : Nat → Prop} {p : Nat} {S : St} (hd : Dev w F p S) (at_ : Int) (ao : Option Addr) (n cap : Nat) (ys : List Int) (ha : Rg at_) (hsl : Sl .u8 w ao n cap ys) (hby : Bytes ys) (hc9 : cap ≤ 9223372036854775807) (hno : 0 < n → ∀ c, ao = some c → ¬ F c.block) :
    Calls Tryz.prog 70 #[.pointer (some ⟨p, 0, none⟩), .int .i64 at_, .slice ao n cap] w fun e w' => e = .returned (.int .i64 (stepE S at_ n)) ∧ ∃ F', Dev w' F' p (if stepE S at_ n = 0 then storeS (stepS S at_ n) at_.toNat ys else stepS S at_ n) ∧ Goes F w F' w' := by
  have hr := hsl.room
  by_cases hE : stepE S at_ n = 0
  · obtain ⟨_, h0, _, _⟩ := checkE_zero (stepE_zero hE)
    obtain ⟨i, rfl⟩ : ∃ i : Nat, at_ = i := ⟨at_.toNat, by omega⟩
    rw [if_pos hE, hE]
    exact store_good hd i ao n cap ys hsl hby hno hE
  · rw [if_neg hE]
    exact (store_bad hd at_ ao n cap ha (by omega) hE).mono fun e w' ⟨h1, h2, h3⟩ => ⟨h1, F, h2, h3⟩
theorem flush_all {w : World} {F : Nat → Prop} {p : Nat} {S : St} (hd : Dev w F p S) (at_ n : Int) (ha : Rg at_) (hn : Rg n) :
    Calls Tryz.prog 72 #[.pointer (some ⟨p, 0, none⟩), .int .i64 at_, .int .i64 n] w fun e w' => e = .returned (.int .i64 (stepE S at_ n)) ∧ Dev w' F p (if stepE S at_ n = 0 then flushS (stepS S at_ n) (lineA at_.toNat n.toNat) (lineB at_.toNat n.toNat) else stepS S at_ n) ∧ Goes F w F w' := by
  by_cases hE : stepE S at_ n = 0
  · obtain ⟨_, h0, h1, _⟩ := checkE_zero (stepE_zero hE)
    obtain ⟨i, rfl⟩ : ∃ i : Nat, at_ = i := ⟨at_.toNat, by omega⟩
    obtain ⟨m, rfl⟩ : ∃ m : Nat, n = m := ⟨n.toNat, by omega⟩
    rw [if_pos hE, hE]
    exact flush_good hd i m hE
  · rw [if_neg hE]
    exact flush_bad hd at_ n ha hn hE
theorem fence_all {w : World} {F : Nat → Prop} {p : Nat} {S : St} (hd : Dev w F p S) :
    Calls Tryz.prog 49 #[.pointer (some ⟨p, 0, none⟩)] w fun e w' => e = .returned (.int .i64 (stepE S 0 0)) ∧ Dev w' F p (if stepE S 0 0 = 0 then fenceS (stepS S 0 0) else stepS S 0 0) ∧ Goes F w F w' := by
  by_cases hE : stepE S 0 0 = 0
  · rw [if_pos hE, hE]; exact fence_good hd hE
  · rw [if_neg hE]; exact fence_bad hd hE
theorem crash_all {w : World} {F : Nat → Prop} {p : Nat} {S : St} (hd : Dev w F p S) (ao : Option Addr) (n cap : Nat) (bs : List Bool) (hk : Slb w ao n bs) (hn9 : n ≤ 9223372036854775807) (hno : 0 < n → ∀ c, ao = some c → ¬ F c.block) :
    Calls Tryz.prog 14 #[.pointer (some ⟨p, 0, none⟩), .slice ao n cap] w fun e w' => e = .returned (.tuple #[]) ∧ Dev w' F p (crashS S bs) ∧ Goes F w F w' := by
  obtain ⟨sb, sc, bm, g, hd⟩ := hd
  exact crash_loop hd ao n cap bs hk hn9 hno

/-- What a call does that is asked for n bytes from a on; f: what it does if it may. -/
def Does (f : St → St) (S : St) (a n : Int) : St := if stepE S a n = 0 then f (stepS S a n) else stepS S a n

theorem sl_none (w : World) : Sl .u8 w none 0 0 [] := ⟨rfl, Nat.le_refl _, fun _ => rfl, fun h => absurd h (by omega)⟩
theorem stepS_ok {S : St} (h : S.Ok) (a n : Int) : (stepS S a n).Ok := by
  unfold stepS
  split
  · exact h
  · rename_i hh
    have h1 : ¬ S.armed = 0 := fun e => hh (Or.inr e)
    have h2 := h.a0
    have h3 := h.a1
    exact ⟨h.len, h.n0, h.n1, by show 0 ≤ S.armed - 1; omega, by show S.armed - 1 ≤ _; omega, h.byt, h.lin⟩
theorem does_bad {f : St → St} {S : St} {a n : Int} (h : checkE S a n ≠ 0) : stepE S a n = checkE S a n ∧ Does f S a n = S := by
  have e1 : stepE S a n = checkE S a n := by unfold stepE; rw [if_pos h]
  have e2 : stepS S a n = S := by unfold stepS; rw [if_pos (Or.inl h)]
  refine ⟨e1, ?_⟩
  unfold Does
  rw [if_neg (by rw [e1]; exact h), e2]
theorem store_does {w : World} {F : Nat → Prop} {p : Nat} {S : St} (hd : Dev w F p S) (at_ : Int) (ao : Option Addr) (n cap : Nat) (ys : List Int) (ha : Rg at_) (hsl : Sl .u8 w ao n cap ys) (hby : Bytes ys) (hc9 : cap ≤ 9223372036854775807) (hno : 0 < n → ∀ c, ao = some c → ¬ F c.block) :
    Calls Tryz.prog 70 #[.pointer (some ⟨p, 0, none⟩), .int .i64 at_, .slice ao n cap] w fun e w' => e = .returned (.int .i64 (stepE S at_ n)) ∧ ∃ F', Dev w' F' p (Does (fun T => storeS T at_.toNat ys) S at_ n) ∧ Goes F w F' w' := store_all hd at_ ao n cap ys ha hsl hby hc9 hno
theorem flush_does {w : World} {F : Nat → Prop} {p : Nat} {S : St} (hd : Dev w F p S) (at_ n : Int) (ha : Rg at_) (hn : Rg n) :
    Calls Tryz.prog 72 #[.pointer (some ⟨p, 0, none⟩), .int .i64 at_, .int .i64 n] w fun e w' => e = .returned (.int .i64 (stepE S at_ n)) ∧ Dev w' F p (Does (fun T => flushS T (lineA at_.toNat n.toNat) (lineB at_.toNat n.toNat)) S at_ n) ∧ Goes F w F w' := flush_all hd at_ n ha hn
theorem fence_does {w : World} {F : Nat → Prop} {p : Nat} {S : St} (hd : Dev w F p S) :
    Calls Tryz.prog 49 #[.pointer (some ⟨p, 0, none⟩)] w fun e w' => e = .returned (.int .i64 (stepE S 0 0)) ∧ Dev w' F p (Does fenceS S 0 0) ∧ Goes F w F w' := fence_all hd
end Go.Proofs.YtgiippbjieecmaaGreat
