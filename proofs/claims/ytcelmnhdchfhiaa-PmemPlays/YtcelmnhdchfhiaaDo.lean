/- joistlaw03.do by its contract. -/
import Derived.Test.YtcelmnhdchfhiaaActs
import Derived.Test.YtcelmnhdchfhiaaImage
import Derived.Test.YtcelmnhdchfhiaaSmall
namespace Go.Proofs.Ytcelmnhdchfhiaa
open Go.RowKit

theorem Slb.below {w w' : World} {ao : Option Addr} {n : Nat} {bs : List Bool} (h : Slb w ao n bs) (hb : Below w.heap.size w w') : Slb w' ao n bs := h.off (F := fun _ => False) (Off.of_below hb) (fun _ _ _ h => h)
theorem ActOk.below {w w' : World} {A : ActD} (h : ActOk w A) (hb : Below w.heap.size w w') : ActOk w' A := ⟨h.r0, h.r1, h.r2, h.bs.below hb, h.by_, h.bm, h.ks.below hb, h.km⟩

/-- An act whose bytes and truths lie below block B. -/
structure ActIn (B : Nat) (w : World) (A : ActD) : Prop where
  ok : ActOk w A
  bb : 0 < A.bl → ∀ c, A.ba = some c → c.block < B
  kb : 0 < A.kl → ∀ c, A.ka = some c → c.block < B
theorem ActOk.inn {w : World} {A : ActD} (h : ActOk w A) : ActIn w.heap.size w A := by
  refine ⟨h, fun hn c hc => ?_, fun hn c hc => ?_⟩
  · obtain ⟨b, off, e, hlt, _⟩ := h.bs.here hn
    rw [e] at hc; cases hc; exact hlt
  · obtain ⟨b, off, e, hlt, _⟩ := h.ks.here hn
    rw [e] at hc; cases hc; exact hlt
theorem ActIn.off {F : Nat → Prop} {B : Nat} {w w' : World} {A : ActD} (h : ActIn B w A) (ho : Off F w w') (hF : ∀ k, F k → B ≤ k) : ActIn B w' A := by
  refine ⟨⟨h.ok.r0, h.ok.r1, h.ok.r2, h.ok.bs.off ho (fun hn c hc hf => ?_), h.ok.by_, h.ok.bm, h.ok.ks.off ho (fun hn c hc hf => ?_), h.ok.km⟩, h.bb, h.kb⟩
  · have := h.bb hn c hc; have := hF _ hf; omega
  · have := h.kb hn c hc; have := hF _ hf; omega

def actV (A : ActD) : Value := .agg #[.int .i64 A.act, .int .i64 A.pos, .int .i64 A.num, .slice A.ba A.bl A.bc, .slice A.ka A.kl A.kc]
def actS (S : St) (A : ActD) : St :=
  if A.act = 1 then (if stepE S A.pos A.bl = 0 then storeS (stepS S A.pos A.bl) A.pos.toNat A.bz else stepS S A.pos A.bl)
  else if A.act = 2 then (if stepE S A.pos A.num = 0 then flushS (stepS S A.pos A.num) (lineA A.pos.toNat A.num.toNat) (lineB A.pos.toNat A.num.toNat) else stepS S A.pos A.num)
  else if A.act = 3 then (if stepE S 0 0 = 0 then fenceS (stepS S 0 0) else stepS S 0 0)
  else if A.act = 4 then { S with armed := max A.num 0 }
  else if A.act = 5 then crashS S A.kz
  else S

theorem store_all {w : World} {F : Nat → Prop} {p : Nat} {S : St} (hd : Dev w F p S) (at_ : Int) (ao : Option Addr) (n cap : Nat) (ys : List Int) (ha : Rg at_) (hsl : Sl .u8 w ao n cap ys) (hby : Bytes ys) (hc9 : cap ≤ 9223372036854775807) (hno : 0 < n → ∀ c, ao = some c → ¬ F c.block) :
    Calls Try.prog 16 #[.pointer (some ⟨p, 0, none⟩), .int .i64 at_, .slice ao n cap] w fun e w' => e = .returned (.int .i64 (stepE S at_ n)) ∧ ∃ F', Dev w' F' p (if stepE S at_ n = 0 then storeS (stepS S at_ n) at_.toNat ys else stepS S at_ n) ∧ Goes F w F' w' := by
  have hr := hsl.room
  by_cases hE : stepE S at_ n = 0
  · obtain ⟨_, h0, _, _⟩ := checkE_zero (stepE_zero hE)
    obtain ⟨i, rfl⟩ : ∃ i : Nat, at_ = i := ⟨at_.toNat, by omega⟩
    rw [if_pos hE, hE]
    exact store_good hd i ao n cap ys hsl hby hno hE
  · rw [if_neg hE]
    exact (store_bad hd at_ ao n cap ha (by omega) hE).mono fun e w' ⟨h1, h2, h3⟩ => ⟨h1, F, h2, h3⟩
theorem flush_all {w : World} {F : Nat → Prop} {p : Nat} {S : St} (hd : Dev w F p S) (at_ n : Int) (ha : Rg at_) (hn : Rg n) :
    Calls Try.prog 18 #[.pointer (some ⟨p, 0, none⟩), .int .i64 at_, .int .i64 n] w fun e w' => e = .returned (.int .i64 (stepE S at_ n)) ∧ Dev w' F p (if stepE S at_ n = 0 then flushS (stepS S at_ n) (lineA at_.toNat n.toNat) (lineB at_.toNat n.toNat) else stepS S at_ n) ∧ Goes F w F w' := by
  by_cases hE : stepE S at_ n = 0
  · obtain ⟨_, h0, h1, _⟩ := checkE_zero (stepE_zero hE)
    obtain ⟨i, rfl⟩ : ∃ i : Nat, at_ = i := ⟨at_.toNat, by omega⟩
    obtain ⟨m, rfl⟩ : ∃ m : Nat, n = m := ⟨n.toNat, by omega⟩
    rw [if_pos hE, hE]
    exact flush_good hd i m hE
  · rw [if_neg hE]
    exact flush_bad hd at_ n ha hn hE
theorem fence_all {w : World} {F : Nat → Prop} {p : Nat} {S : St} (hd : Dev w F p S) :
    Calls Try.prog 20 #[.pointer (some ⟨p, 0, none⟩)] w fun e w' => e = .returned (.int .i64 (stepE S 0 0)) ∧ Dev w' F p (if stepE S 0 0 = 0 then fenceS (stepS S 0 0) else stepS S 0 0) ∧ Goes F w F w' := by
  by_cases hE : stepE S 0 0 = 0
  · rw [if_pos hE, hE]; exact fence_good hd hE
  · rw [if_neg hE]; exact fence_bad hd hE
theorem crash_all {w : World} {F : Nat → Prop} {p : Nat} {S : St} (hd : Dev w F p S) (ao : Option Addr) (n cap : Nat) (bs : List Bool) (hk : Slb w ao n bs) (hn9 : n ≤ 9223372036854775807) (hno : 0 < n → ∀ c, ao = some c → ¬ F c.block) :
    Calls Try.prog 24 #[.pointer (some ⟨p, 0, none⟩), .slice ao n cap] w fun e w' => e = .returned (.tuple #[]) ∧ Dev w' F p (crashS S bs) ∧ Goes F w F w' := by
  obtain ⟨sb, sc, bm, g, hd⟩ := hd
  exact crash_loop hd ao n cap bs hk hn9 hno

set_option maxRecDepth 100000 in
theorem do_any {w : World} {F : Nat → Prop} {p B : Nat} {S : St} (hd : Dev w F p S) (A : ActD) (hA : ActIn B w A) (hF : ∀ k, F k → B ≤ k) :
    Calls Try.prog 27 #[.pointer (some ⟨p, 0, none⟩), actV A] w fun e w' => e = .returned (.tuple #[]) ∧ ∃ F', Dev w' F' p (actS S A) ∧ Goes F w F' w' := by
  obtain ⟨a0, a1, a2, ba, bl, bc, bz, ka, kl, kc, kz⟩ := A
  have hb : Below w.heap.size w (w.alloc (.cells #[.int .i64 a0, .int .i64 a1, .int .i64 a2, .slice ba bl bc, .slice ka kl kc] 38)) := (Below.refl _ _).alloc (Nat.le_refl _) _
  have hd1 := hd.below hb
  have hg1 : Goes F w F (w.alloc (.cells #[.int .i64 a0, .int .i64 a1, .int .i64 a2, .slice ba bl bc, .slice ka kl kc] 38)) := Goes.of_below hb
  have hok := hA.ok.below hb
  have hn1 : 0 < bl → ∀ c, ba = some c → ¬ F c.block := fun hn c hc hf => by have := hA.bb hn c hc; have := hF _ hf; omega
  have hn2 : 0 < kl → ∀ c, ka = some c → ¬ F c.block := fun hn c hc hf => by have := hA.kb hn c hc; have := hF _ hf; omega
  have cS := store_all hd1 a1 ba bl bc bz hok.r1 hok.bs hok.by_ hok.bm hn1
  have cF := flush_all hd1 a1 a2 hok.r1 hok.r2
  have cN := fence_all hd1
  have cA := arm_any hd1 a2 hok.r2
  have cC := crash_all hd1 ka kl kc kz hok.ks hok.km hn2
  have hd2 := hd1
  clear hA hok hn1 hn2 hd hd1
  by_cases h1 : a0 = 1
  · subst h1
    obtain ⟨X, hX⟩ : ∃ X, X = actS S ⟨1, a1, a2, ba, bl, bc, bz, ka, kl, kc, kz⟩ := ⟨_, rfl⟩
    have e : (if stepE S a1 bl = 0 then storeS (stepS S a1 bl) a1.toNat bz else stepS S a1 bl) = X := by rw [hX]; rfl
    rw [← hX]
    rw [e] at cS
    clear hX e
    unfold actV
    go_enter Try.func27, Try.ntmps27
    go_wp2_with (go_at_call 16; with_reducible refine cS.mono ?_; rintro e w' ⟨rfl, F', d, g⟩)
    go_end0
    exact ⟨rfl, F', d, hg1.trans g⟩
  · by_cases h2 : a0 = 2
    · subst h2
      obtain ⟨X, hX⟩ : ∃ X, X = actS S ⟨2, a1, a2, ba, bl, bc, bz, ka, kl, kc, kz⟩ := ⟨_, rfl⟩
      have e : (if stepE S a1 a2 = 0 then flushS (stepS S a1 a2) (lineA a1.toNat a2.toNat) (lineB a1.toNat a2.toNat) else stepS S a1 a2) = X := by rw [hX]; rfl
      rw [← hX]
      rw [e] at cF
      clear hX e
      unfold actV
      go_enter Try.func27, Try.ntmps27
      go_wp2_with (go_at_call 18; with_reducible refine cF.mono ?_; rintro e w' ⟨rfl, d, g⟩)
      go_end0
      exact ⟨rfl, F, d, hg1.trans g⟩
    · by_cases h3 : a0 = 3
      · subst h3
        obtain ⟨X, hX⟩ : ∃ X, X = actS S ⟨3, a1, a2, ba, bl, bc, bz, ka, kl, kc, kz⟩ := ⟨_, rfl⟩
        have e : (if stepE S 0 0 = 0 then fenceS (stepS S 0 0) else stepS S 0 0) = X := by rw [hX]; rfl
        rw [← hX]
        rw [e] at cN
        clear hX e
        unfold actV
        go_enter Try.func27, Try.ntmps27
        go_wp2_with (go_at_call 20; with_reducible refine cN.mono ?_; rintro e w' ⟨rfl, d, g⟩)
        go_end0
        exact ⟨rfl, F, d, hg1.trans g⟩
      · by_cases h4 : a0 = 4
        · subst h4
          obtain ⟨X, hX⟩ : ∃ X, X = actS S ⟨4, a1, a2, ba, bl, bc, bz, ka, kl, kc, kz⟩ := ⟨_, rfl⟩
          have e : ({ S with armed := max a2 0 } : St) = X := by rw [hX]; rfl
          rw [← hX]
          rw [e] at cA
          clear hX e
          unfold actV
          go_enter Try.func27, Try.ntmps27
          go_wp2_with (go_at_call 22; with_reducible refine cA.mono ?_; rintro e w' ⟨rfl, d, g, _⟩)
          go_end0
          exact ⟨rfl, F, d, hg1.trans g⟩
        · by_cases h5 : a0 = 5
          · subst h5
            obtain ⟨X, hX⟩ : ∃ X, X = actS S ⟨5, a1, a2, ba, bl, bc, bz, ka, kl, kc, kz⟩ := ⟨_, rfl⟩
            have e : crashS S kz = X := by rw [hX]; rfl
            rw [← hX]
            rw [e] at cC
            clear hX e
            unfold actV
            go_enter Try.func27, Try.ntmps27
            go_wp2_with (go_at_call 24; with_reducible refine cC.mono ?_; rintro e w' ⟨rfl, d, g⟩)
            go_end0
            exact ⟨rfl, F, d, hg1.trans g⟩
          · have e : actS S ⟨a0, a1, a2, ba, bl, bc, bz, ka, kl, kc, kz⟩ = S := by simp only [actS]; rw [if_neg h1, if_neg h2, if_neg h3, if_neg h4, if_neg h5]
            rw [e]
            clear e
            unfold actV
            go_enter Try.func27, Try.ntmps27
            go_wp2
            go_end0
            exact ⟨rfl, F, hd2, hg1⟩
end Go.Proofs.Ytcelmnhdchfhiaa
