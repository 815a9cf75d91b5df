/- Two devices and an act beside them, in memory of their own. -/
import Derived.Test.YtcelmnhdchfhiaaRPair
import Derived.Test.YtcelmnhdchfhiaaRowsL
namespace Go.Proofs.Ytcelmnhdchfhiaa
open Go.RowKit
set_option linter.unusedVariables false

theorem act_upto {W wr : World} {b o : Nat} {A : ActD} (h : Act1 W b o A) (hlt : b < W.heap.size) (hb : Below W.heap.size W wr) : Act1 wr b o A :=
  ⟨(hb.cell (p := ⟨b, o, none⟩) hlt).trans h.c0, (hb.cell (p := ⟨b, o + 1, none⟩) hlt).trans h.c1, (hb.cell (p := ⟨b, o + 2, none⟩) hlt).trans h.c2, (hb.cell (p := ⟨b, o + 3, none⟩) hlt).trans h.c3, (hb.cell (p := ⟨b, o + 4, none⟩) hlt).trans h.c4, h.ok.below hb⟩
/-- An act's five cells. -/
structure ActC (w : World) (b : Nat) (A : ActD) : Prop where
  lt : b < w.heap.size
  c0 : w.cell? ⟨b, 0, none⟩ = some (.int .i64 A.act)
  c1 : w.cell? ⟨b, 1, none⟩ = some (.int .i64 A.pos)
  c2 : w.cell? ⟨b, 2, none⟩ = some (.int .i64 A.num)
  c3 : w.cell? ⟨b, 3, none⟩ = some (.slice A.ba A.bl A.bc)
  c4 : w.cell? ⟨b, 4, none⟩ = some (.slice A.ka A.kl A.kc)
theorem ActC.off {F : Nat → Prop} {w w' : World} {b : Nat} {A : ActD} (h : ActC w b A) (ho : Off F w w') (hn : ¬ F b) : ActC w' b A := by
  have e : ∀ i, w'.cell? ⟨b, i, none⟩ = w.cell? ⟨b, i, none⟩ := fun i => World.cell?_of_block (a := ⟨b, i, none⟩) (ho.block b h.lt hn)
  exact ⟨Nat.lt_of_lt_of_le h.lt ho.size, (e 0).trans h.c0, (e 1).trans h.c1, (e 2).trans h.c2, (e 3).trans h.c3, (e 4).trans h.c4⟩
theorem actC_new (w : World) (A : ActD) : ActC (w.alloc (.cells #[.int .i64 A.act, .int .i64 A.pos, .int .i64 A.num, .slice A.ba A.bl A.bc, .slice A.ka A.kl A.kc] 38)) w.heap.size A :=
  ⟨by simp, by simp, by simp, by simp, by simp, by simp⟩
structure Sit (B b : Nat) (w0 w : World) (p q : Nat) (F G : Nat → Prop) (S : St) (R : RSt) (A : ActD) : Prop where
  d : Dev w F p S
  r : RDev w G q R
  bf : ∀ j, F j → B ≤ j
  bg : ∀ j, G j → B ≤ j
  dis : ∀ j, F j → ¬ G j
  ac : ActC w b A
  inn : ActIn B w A
  bel : Below B w0 w
  le : B ≤ w.heap.size
  nf : ¬ F b
  ng : ¬ G b
section
variable {B b : Nat} {w0 w w' : World} {p q : Nat} {F G : Nat → Prop} {S : St} {R : RSt} {A : ActD}
theorem Sit.off {E : Nat → Prop} (h : Sit B b w0 w p q F G S R A) (ho : Off E w w') (hE : ∀ j, E j → j < w.heap.size → B ≤ j ∧ ¬ F j ∧ ¬ G j ∧ j ≠ b) : Sit B b w0 w' p q F G S R A := by
  have ho' : Off (fun j => E j ∧ j < w.heap.size) w w' := ho.mono fun j hj hl => ⟨hj, hl⟩
  exact ⟨h.d.off ho' (fun k hk hf => (hE k hf.1 hf.2).2.1 hk), h.r.off ho' (fun k hk hf => (hE k hf.1 hf.2).2.2.1 hk), h.bf, h.bg, h.dis, h.ac.off ho' (fun hf => (hE b hf.1 hf.2).2.2.2 rfl), h.inn.off ho' (fun k hk => (hE k hk.1 hk.2).1), h.bel.trans (ho'.below (fun k hk => (hE k hk.1 hk.2).1) h.le), Nat.le_trans h.le ho.size, h.nf, h.ng⟩
theorem Sit.below (h : Sit B b w0 w p q F G S R A) (hb : Below w.heap.size w w') : Sit B b w0 w' p q F G S R A := h.off (E := fun _ => False) (Off.of_below hb) (fun _ h => h.elim)
theorem Sit.pm {F' : Nat → Prop} {S1 : St} (h : Sit B b w0 w p q F G S R A) (d : Dev w' F' p S1) (g : Goes F w F' w') : Sit B b w0 w' p q F' G S1 R A :=
  ⟨d, h.r.off g.off (fun k hk hf => h.dis k hf hk), fun j hj => by rcases g.new j hj with h1 | h1; exact h.bf j h1; exact Nat.le_trans h.le h1, h.bg, fun j hj hg => by
    rcases g.new j hj with h1 | h1
    · exact h.dis j h1 hg
    · have := h.r.bound j hg; omega, h.ac.off g.off h.nf, h.inn.off g.off h.bf, h.bel.trans (g.off.below h.bf h.le), Nat.le_trans h.le g.off.size, fun hf => by
    rcases g.new b hf with h1 | h1
    · exact h.nf h1
    · have := h.ac.lt; omega, h.ng⟩
theorem Sit.rf {G' : Nat → Prop} {R1 : RSt} (h : Sit B b w0 w p q F G S R A) (r : RDev w' G' q R1) (g : Goes G w G' w') : Sit B b w0 w' p q F G' S R1 A :=
  ⟨h.d.off g.off (fun k hk hf => h.dis k hk hf), r, h.bf, fun j hj => by rcases g.new j hj with h1 | h1; exact h.bg j h1; exact Nat.le_trans h.le h1, fun j hj hg => by
    rcases g.new j hg with h1 | h1
    · exact h.dis j hj h1
    · have := h.d.bound j hj; omega, h.ac.off g.off h.ng, h.inn.off g.off h.bg, h.bel.trans (g.off.below h.bg h.le), Nat.le_trans h.le g.off.size, h.nf, fun hf => by
    rcases g.new b hf with h1 | h1
    · exact h.ng h1
    · have := h.ac.lt; omega⟩
theorem Sit.noF (h : Sit B b w0 w p q F G S R A) : (0 < A.bl → ∀ c, A.ba = some c → ¬ F c.block) ∧ (0 < A.kl → ∀ c, A.ka = some c → ¬ F c.block) :=
  ⟨fun hn c hc hf => by have := h.inn.bb hn c hc; have := h.bf _ hf; omega, fun hn c hc hf => by have := h.inn.kb hn c hc; have := h.bf _ hf; omega⟩
theorem Sit.noG (h : Sit B b w0 w p q F G S R A) : (0 < A.bl → ∀ c, A.ba = some c → ¬ G c.block) ∧ (0 < A.kl → ∀ c, A.ka = some c → ¬ G c.block) :=
  ⟨fun hn c hc hf => by have := h.inn.bb hn c hc; have := h.bg _ hf; omega, fun hn c hc hf => by have := h.inn.kb hn c hc; have := h.bg _ hf; omega⟩
/-- New memory, spoilt. -/
theorem Sit.fresh {E : Nat → Prop} {w1 : World} (h : Sit B b w0 w p q F G S R A) (hb : Below w.heap.size w w1) (ho : Off E w1 w') (hE : ∀ j, E j → w.heap.size ≤ j) : Sit B b w0 w' p q F G S R A :=
  h.off (E := fun j => w.heap.size ≤ j) ((Off.of_below hb).trans ho (fun j hj => Or.inl (hE j hj))) (fun j h1 h2 => by omega)
theorem Lentd.off {E : Nat → Prop} {g : Nat} {zs : List Int} (h : Lentd w g zs) (ho : Off E w w') (hn : ¬ E g) : Lentd w' g zs := by
  unfold Lentd at h ⊢
  rw [ho.block g (Array.getElem?_eq_some_iff.1 h).1 hn]
  exact h
/-- The start of a round: the act laid out beside the two devices. -/
theorem sit_new (h : Two B w p q F G S R) (hbl : Below B w0 w) (hB : B ≤ w.heap.size) (hin : ActIn B w A) : Sit B w.heap.size w0 (w.alloc (.cells #[.int .i64 A.act, .int .i64 A.pos, .int .i64 A.num, .slice A.ba A.bl A.bc, .slice A.ka A.kl A.kc] 38)) p q F G S R A := by
  have hb : Below w.heap.size w (w.alloc (.cells #[.int .i64 A.act, .int .i64 A.pos, .int .i64 A.num, .slice A.ba A.bl A.bc, .slice A.ka A.kl A.kc] 38)) := (Below.refl _ _).alloc (Nat.le_refl _) _
  exact ⟨h.d.below hb, h.r.below hb, h.bf, h.bg, h.dis, actC_new w A, hin.off (F := fun _ => False) (Off.of_below hb) (fun _ h => h.elim), hbl.trans (hb.mono hB), Nat.le_trans hB hb.size, fun hf => by have := h.d.bound _ hf; omega, fun hf => by have := h.r.bound _ hf; omega⟩
theorem Sit.two (h : Sit B b w0 w p q F G S R A) (hab : Ab S R) : Two B w p q F G S R := ⟨h.d, h.r, hab, h.bf, h.bg, h.dis⟩
end
end Go.Proofs.Ytcelmnhdchfhiaa
