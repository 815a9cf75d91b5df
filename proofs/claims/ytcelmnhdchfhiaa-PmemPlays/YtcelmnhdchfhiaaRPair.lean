/- Two devices, act by act: the document's calls told by pmem's state. -/
import Derived.Test.YtcelmnhdchfhiaaRAb
import Derived.Test.YtcelmnhdchfhiaaStepped
namespace Go.Proofs.Ytcelmnhdchfhiaa
open Go.RowKit
set_option linter.unusedVariables false

theorem stepS_ok {S : St} (h : S.Ok) (a n : Int) : (stepS S a n).Ok := by
  unfold stepS
  split
  · exact h
  · rename_i hh
    have h1 : ¬ S.armed = 0 := fun e => hh (Or.inr e)
    have h2 := h.a0
    have h3 := h.a1
    exact ⟨h.len, h.n0, h.n1, by show 0 ≤ S.armed - 1; omega, by show S.armed - 1 ≤ _; omega, h.byt, h.lin⟩
theorem RSt.Ok.len' {R : RSt} (h : R.Ok) : Len R := ⟨h.l2, h.l3⟩
theorem len_step {R : RSt} (h : Len R) : Len (rstepS R) := by
  obtain ⟨e1, e2, e3, e4, e5⟩ := rstepS_same (R := R)
  exact ⟨by rw [e4, e1]; exact h.l2, by rw [e5, e1]; exact h.l3⟩
theorem does_bad {f : St → St} {S : St} {a n : Int} (h : checkE S a n ≠ 0) : stepE S a n = checkE S a n ∧ Does f S a n = S := by
  have e1 : stepE S a n = checkE S a n := by unfold stepE; rw [if_pos h]
  have e2 : stepS S a n = S := by unfold stepS; rw [if_pos (Or.inl h)]
  refine ⟨e1, ?_⟩
  unfold Does
  rw [if_neg (by rw [e1]; exact h), e2]
section
variable {w : World} {G : Nat → Prop} {q : Nat} {R : RSt} {S : St}
theorem rstore_pair (hr : RDev w G q R) (hab : Ab S R) (hok : S.Ok) (a : Int) (ao : Option Addr) (m cap : Nat) (ys : List Int) (ha : Rg a) (hsl : Sl .u8 w ao m cap ys) (hby : Bytes ys) (hm9 : m ≤ 9223372036854775807) (hno : 0 < m → ∀ c, ao = some c → ¬ G c.block) :
    Calls Try.prog 17 #[.pointer (some ⟨q, 0, none⟩), .int .i64 a, .slice ao m cap] w fun e w' => e = .returned (.int .i64 (stepE S a m)) ∧ (∃ R1, RDev w' G q R1 ∧ Ab (Does (fun T => storeS T a.toNat ys) S a m) R1) ∧ Goes G w G w' := by
  refine (rstore_any hr a ao m cap ys ha hsl hby hm9 hno).mono ?_
  rintro e w' ⟨hg, h1, h2, h3⟩
  rw [ab_ask hab hok] at h1 h2 h3
  refine ⟨?_, ?_, hg⟩
  · by_cases hc : checkE S a m = 0
    · obtain ⟨e1, e2⟩ := ab_step hab hc
      cases hB : rstepB R with
      | true => rw [e1, if_pos hB]; exact (h2 hc hB).1
      | false => rw [e1, if_neg (by rw [hB]; simp)]; exact (h3 hc hB).1
    · rw [(does_bad (f := id) hc).1]; exact (h1 hc).1
  · by_cases hc : checkE S a m = 0
    · obtain ⟨e1, e2⟩ := ab_step hab hc
      obtain ⟨_, k2, k3, k4⟩ := checkE_zero hc
      cases hB : rstepB R with
      | true =>
        rw [if_pos hB] at e1
        refine ⟨_, (h2 hc hB).2, ?_⟩
        unfold Does
        rw [if_neg (by omega)]
        exact e2
      | false =>
        rw [if_neg (by rw [hB]; simp)] at e1
        refine ⟨_, (h3 hc hB).2, ?_⟩
        unfold Does
        rw [if_pos e1]
        have hl := hsl.len
        have hn : (stepS S a m).n = S.n := (stepS_same S a m).2.1
        have := ab_store e2 (len_step hr.ok.len') (stepS_ok hok a m) (i := a.toNat) (ys := ys) (by rw [hn, ← hok.len, hl]; omega)
        rw [hl] at this
        exact this
    · exact ⟨R, (h1 hc).2, by rw [(does_bad hc).2]; exact hab⟩
theorem rflush_pair (hr : RDev w G q R) (hab : Ab S R) (hok : S.Ok) (a m : Int) (ha : Rg a) (hm : Rg m) :
    Calls Try.prog 19 #[.pointer (some ⟨q, 0, none⟩), .int .i64 a, .int .i64 m] w fun e w' => e = .returned (.int .i64 (stepE S a m)) ∧ (∃ R1, RDev w' G q R1 ∧ Ab (Does (fun T => flushS T (lineA a.toNat m.toNat) (lineB a.toNat m.toNat)) S a m) R1) ∧ Goes G w G w' := by
  refine (rflush_any hr a m ha hm).mono ?_
  rintro e w' ⟨hg, h1, h2, h3⟩
  rw [ab_ask hab hok] at h1 h2 h3
  refine ⟨?_, ?_, hg⟩
  · by_cases hc : checkE S a m = 0
    · obtain ⟨e1, e2⟩ := ab_step hab hc
      cases hB : rstepB R with
      | true => rw [e1, if_pos hB]; exact (h2 hc hB).1
      | false => rw [e1, if_neg (by rw [hB]; simp)]; exact (h3 hc hB).1
    · rw [(does_bad (f := id) hc).1]; exact (h1 hc).1
  · by_cases hc : checkE S a m = 0
    · obtain ⟨e1, e2⟩ := ab_step hab hc
      obtain ⟨_, k2, k3, k4⟩ := checkE_zero hc
      cases hB : rstepB R with
      | true =>
        rw [if_pos hB] at e1
        refine ⟨_, (h2 hc hB).2, ?_⟩
        unfold Does
        rw [if_neg (by omega)]
        exact e2
      | false =>
        rw [if_neg (by rw [hB]; simp)] at e1
        refine ⟨_, (h3 hc hB).2, ?_⟩
        unfold Does
        rw [if_pos e1]
        have hn : (stepS S a m).n = S.n := (stepS_same S a m).2.1
        exact ab_flush e2 (len_step hr.ok.len') (by rw [hn, ← hok.len]; omega)
    · exact ⟨R, (h1 hc).2, by rw [(does_bad hc).2]; exact hab⟩
theorem rfence_pair (hr : RDev w G q R) (hab : Ab S R) (hok : S.Ok) :
    Calls Try.prog 21 #[.pointer (some ⟨q, 0, none⟩)] w fun e w' => e = .returned (.int .i64 (stepE S 0 0)) ∧ (∃ R1, RDev w' G q R1 ∧ Ab (Does fenceS S 0 0) R1) ∧ Goes G w G w' := by
  refine (rfence_any hr).mono ?_
  rintro e w' ⟨hg, h1, h2, h3⟩
  rw [hab.dn] at h1 h2 h3
  cases hd : S.down with
  | true =>
    have hc : checkE S 0 0 = 5 := by unfold checkE; rw [if_pos hd]
    have hc' : checkE S 0 0 ≠ 0 := by omega
    obtain ⟨e1, e2⟩ := does_bad (f := fenceS) hc'
    rw [e1, hc, e2]
    exact ⟨(h1 hd).1, ⟨R, (h1 hd).2, hab⟩, hg⟩
  | false =>
    have hc : checkE S 0 0 = 0 := by unfold checkE; rw [if_neg (by rw [hd]; simp), if_neg (by omega)]
    obtain ⟨e1, e2⟩ := ab_step hab hc
    cases hB : rstepB R with
    | true =>
      rw [if_pos hB] at e1
      rw [e1]
      refine ⟨(h2 hd hB).1, ⟨_, (h2 hd hB).2, ?_⟩, hg⟩
      unfold Does
      rw [if_neg (by omega)]
      exact e2
    | false =>
      rw [if_neg (by rw [hB]; simp)] at e1
      rw [e1]
      refine ⟨(h3 hd hB).1, ⟨_, (h3 hd hB).2, ?_⟩, hg⟩
      unfold Does
      rw [if_pos e1]
      have hn : (stepS S 0 0).n = S.n := (stepS_same S 0 0).2.1
      have := ab_fence e2 (len_step hr.ok.len') (stepS_ok hok 0 0)
      rw [hn, ← hab.n] at this
      exact this
end
/-- Two devices, alike, in memory of their own from block B on. -/
structure Two (B : Nat) (w : World) (p q : Nat) (F G : Nat → Prop) (S : St) (R : RSt) : Prop where
  d : Dev w F p S
  r : RDev w G q R
  ab : Ab S R
  bf : ∀ j, F j → B ≤ j
  bg : ∀ j, G j → B ≤ j
  dis : ∀ j, F j → ¬ G j
theorem Two.below {B : Nat} {w w' : World} {p q : Nat} {F G : Nat → Prop} {S : St} {R : RSt} (h : Two B w p q F G S R) (hb : Below w.heap.size w w') : Two B w' p q F G S R := ⟨h.d.below hb, h.r.below hb, h.ab, h.bf, h.bg, h.dis⟩
theorem Two.off {B : Nat} {w w' : World} {E : Nat → Prop} {p q : Nat} {F G : Nat → Prop} {S : St} {R : RSt} (h : Two B w p q F G S R) (ho : Off E w w') (h1 : ∀ j, F j → ¬ E j) (h2 : ∀ j, G j → ¬ E j) : Two B w' p q F G S R := ⟨h.d.off ho h1, h.r.off ho h2, h.ab, h.bf, h.bg, h.dis⟩
theorem Two.half {B : Nat} {w w4 : World} {p q : Nat} {F F' G : Nat → Prop} {S : St} {R : RSt} (h : Two B w p q F G S R) (g : Goes F w F' w4) : RDev w4 G q R ∧ ∀ j, F' j → ¬ G j :=
  ⟨h.r.off g.off (fun k hk hf => h.dis k hf hk), fun j hj hg => by
    rcases g.new j hj with h1 | h1
    · exact h.dis j h1 hg
    · have := h.r.bound j hg; omega⟩
theorem Two.next {B : Nat} {w w4 w5 : World} {p q : Nat} {F F' G G' : Nat → Prop} {S S1 : St} {R R1 : RSt} (h : Two B w p q F G S R) (hB : B ≤ w.heap.size) (d4 : Dev w4 F' p S1) (g4 : Goes F w F' w4) (r5 : RDev w5 G' q R1) (g5 : Goes G w4 G' w5) (hab : Ab S1 R1) : Two B w5 p q F' G' S1 R1 ∧ Below B w w5 := by
  obtain ⟨_, h2⟩ := h.half g4
  have hs := g4.off.size
  have b4 : ∀ j, F' j → B ≤ j := fun j hj => by rcases g4.new j hj with h1 | h1; exact h.bf j h1; omega
  refine ⟨⟨d4.off g5.off (fun k hk hg => h2 k hk hg), r5, hab, b4, fun j hj => ?_, fun j hj hg => ?_⟩, (g4.off.below h.bf hB).trans (g5.off.below h.bg (by omega))⟩
  · rcases g5.new j hj with h1 | h1
    · exact h.bg j h1
    · omega
  · rcases g5.new j hg with h1 | h1
    · exact h2 j hj h1
    · have := d4.bound j hj; omega
end Go.Proofs.Ytcelmnhdchfhiaa
