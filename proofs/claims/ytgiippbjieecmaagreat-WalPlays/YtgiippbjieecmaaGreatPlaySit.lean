/- The two devices, an act and what came in: what stays, call by call. -/
import Derived.Test.YtgiippbjieecmaaGreatRefRecov
import Derived.Test.YtgiippbjieecmaaGreatMgQ
import Derived.Test.YtgiippbjieecmaaGreatRNew
import Derived.Test.YtgiippbjieecmaaGreatMgH
namespace Go.Proofs.YtgiippbjieecmaaGreat
set_option maxRecDepth 100000
open Go.RowKit
set_option linter.unusedVariables false

theorem PlayOk.below {w w' : World} {A : PlayD} (h : PlayOk w A) (hb : Below w.heap.size w w') : PlayOk w' A := ⟨h.a, h.n, h.ch.below hb, h.k.below hb, h.k9⟩
theorem PlayC.far {w w' : World} {b o : Nat} {A : PlayD} (h : PlayC w b o A) (he : w'.heap[b]? = w.heap[b]?) : PlayC w' b o A :=
  ⟨(World.cell?_of_block (a := ⟨b, o, none⟩) he).trans h.c0, (World.cell?_of_block (a := ⟨b, o + 1, none⟩) he).trans h.c1, (World.cell?_of_block (a := ⟨b, o + 2, none⟩) he).trans h.c2, (World.cell?_of_block (a := ⟨b, o + 3, none⟩) he).trans h.c3⟩
theorem Shows.image {w : World} {G : Nat → Prop} {q : Nat} {S : St} (h : Shows w G q S) : Calls Tryz.prog 17 #[.pointer (some ⟨q, 0, none⟩)] w fun e w' => ∃ ao c, e = .returned (.slice ao S.seen.length c) ∧ Own .u8 5 w.heap.size w' ao S.seen.length c (lasts S) ∧ Below w.heap.size w w' := by
  obtain ⟨R, h1, h2⟩ := h.dev
  have hc := rimage_any h1
  rw [h2.la, h2.n, ← h.ok.len] at hc
  exact hc
theorem Shows.arm {w : World} {G : Nat → Prop} {q : Nat} {S : St} (h : Shows w G q S) (n : Int) (hn : Rg n) : Calls Tryz.prog 13 #[.pointer (some ⟨q, 0, none⟩), .int .i64 n] w fun e w' => e = .returned (.tuple #[]) ∧ Shows w' G q { S with armed := max n 0 } ∧ Goes G w G w' := by
  obtain ⟨R, h1, h2⟩ := h.dev
  refine (rarm_any h1 n hn).mono fun e w' ⟨e1, r, g⟩ => ⟨e1, ⟨?_, _, r, ab_arm h2 n⟩, g⟩
  have hk := h.ok
  obtain ⟨n0, n1⟩ := hn
  exact ⟨hk.len, hk.n0, hk.n1, by show 0 ≤ max n 0; omega, by show max n 0 ≤ _; omega, hk.byt, hk.lin⟩
theorem crashS_ok {S : St} (h : S.Ok) (keep : List Bool) : (crashS S keep).Ok :=
  ⟨crashP_len h keep _, h.n0, h.n1, by show (0 : Int) ≤ 0; omega, by show (0 : Int) ≤ _; omega, crashP_bytes h keep _, fun i zs fl e => by cases e⟩
theorem Shows.crash {w : World} {G : Nat → Prop} {q : Nat} {S : St} (h : Shows w G q S) (ao : Option Addr) (m cap : Nat) (bs : List Bool) (hk : Slb w ao m bs) (hm9 : m ≤ 9223372036854775807) (hno : 0 < m → ∀ c, ao = some c → ¬ G c.block) :
    Calls Tryz.prog 15 #[.pointer (some ⟨q, 0, none⟩), .slice ao m cap] w fun e w' => e = .returned (.tuple #[]) ∧ ∃ G', Shows w' G' q (crashS S bs) ∧ Goes G w G' w' := by
  obtain ⟨R, h1, h2⟩ := h.dev
  exact (rcrash_any h1 ao m cap bs hk hm9 hno).mono fun e w' ⟨e1, G', r, g⟩ => ⟨e1, G', ⟨crashS_ok h.ok bs, _, r, ab_crash h2 h.ok bs⟩, g⟩
/-- The devices p and q, all of whose blocks are new since wB, and the act's block b. -/
structure Pl (wB w : World) (p q : Nat) (F G : Nat → Prop) (S T : St) : Prop where
  d : Dev w F p S
  r : Shows w G q T
  bf : ∀ k, F k → wB.heap.size ≤ k
  bg : ∀ k, G k → wB.heap.size ≤ k
  dis : ∀ k, F k → ¬ G k
  bel : Below wB.heap.size wB w
theorem Pl.below {wB w w' : World} {p q : Nat} {F G : Nat → Prop} {S T : St} (h : Pl wB w p q F G S T) (hb : Below w.heap.size w w') : Pl wB w' p q F G S T :=
  ⟨h.d.below hb, h.r.below hb, h.bf, h.bg, h.dis, next h.bel hb⟩
theorem Pl.drew {wB w : World} {p q : Nat} {F G : Nat → Prop} {S T : St} (h : Pl wB w p q F G S T) : Pl wB w.drew p q F G S T := h.below (below_drew (Below.refl _ _))
theorem Pl.pm {wB w w' : World} {p q : Nat} {F F' G : Nat → Prop} {S S1 T : St} (h : Pl wB w p q F G S T) (d : Dev w' F' p S1) (g : Goes F w F' w') : Pl wB w' p q F' G S1 T :=
  ⟨d, h.r.off g.off (fun k hk hf => h.dis k hf hk), fun k hk => by
    rcases g.new k hk with e | e
    · exact h.bf k e
    · exact Nat.le_trans h.bel.size e, h.bg, fun k hk hg => by
    rcases g.new k hk with e | e
    · exact h.dis k e hg
    · have := h.r.bound k hg; omega, h.bel.trans (g.off.below h.bf h.bel.size)⟩
theorem Pl.rf {wB w w' : World} {p q : Nat} {F G G' : Nat → Prop} {S T T1 : St} (h : Pl wB w p q F G S T) (r : Shows w' G' q T1) (g : Goes G w G' w') : Pl wB w' p q F G' S T1 :=
  ⟨h.d.off g.off (fun k hk hf => h.dis k hk hf), r, h.bf, fun k hk => by
    rcases g.new k hk with e | e
    · exact h.bg k e
    · exact Nat.le_trans h.bel.size e, fun k hk hg => by
    rcases g.new k hg with e | e
    · exact h.dis k hk e
    · have := h.d.bound k hk; omega, h.bel.trans (g.off.below h.bg h.bel.size)⟩
/-- The act's block. -/
structure Pb (w : World) (F G : Nat → Prop) (b : Nat) (A : PlayD) : Prop where
  c : PlayC w b 0 A
  lt : b < w.heap.size
  nf : ¬ F b
  ng : ¬ G b
theorem Pb.pm {w w' : World} {F F' G : Nat → Prop} {b : Nat} {A : PlayD} (h : Pb w F G b A) (g : Goes F w F' w') : Pb w' F' G b A :=
  ⟨h.c.far (g.off.block b h.lt h.nf), Nat.lt_of_lt_of_le h.lt g.off.size, fun hf => by
    rcases g.new b hf with e | e
    · exact h.nf e
    · have := h.lt; omega, h.ng⟩
theorem Pb.rf {w w' : World} {F G G' : Nat → Prop} {b : Nat} {A : PlayD} (h : Pb w F G b A) (g : Goes G w G' w') : Pb w' F G' b A :=
  ⟨h.c.far (g.off.block b h.lt h.ng), Nat.lt_of_lt_of_le h.lt g.off.size, h.nf, fun hf => by
    rcases g.new b hf with e | e
    · exact h.ng e
    · have := h.lt; omega⟩
theorem Pb.below {w w' : World} {F G : Nat → Prop} {b : Nat} {A : PlayD} (h : Pb w F G b A) (hb : Below w.heap.size w w') : Pb w' F G b A := h.pm (Goes.of_below hb)
theorem pb_new {wB w : World} {p q : Nat} {F G : Nat → Prop} {S T : St} (h : Pl wB w p q F G S T) (A : PlayD) :
    Pb (w.alloc (.cells #[.int .i64 A.act, .int .i64 A.n, .slice A.lo A.m A.lc, .slice A.ka A.kl A.kc] 37)) F G w.heap.size A ∧ Pl wB (w.alloc (.cells #[.int .i64 A.act, .int .i64 A.n, .slice A.lo A.m A.lc, .slice A.ka A.kl A.kc] 37)) p q F G S T :=
  ⟨⟨⟨by simp, by simp, by simp, by simp⟩, by simp, fun hf => by have := h.d.bound _ hf; omega, fun hg => by have := h.r.bound _ hg; omega⟩, h.below ((Below.refl _ _).alloc (Nat.le_refl _) _)⟩
/-- What came in is none of the devices'. -/
theorem Pl.noF {wB w : World} {p q : Nat} {F G : Nat → Prop} {S T : St} (h : Pl wB w p q F G S T) {b : Nat} (hb : b < wB.heap.size) : ¬ F b ∧ ¬ G b :=
  ⟨fun hf => by have := h.bf b hf; omega, fun hg => by have := h.bg b hg; omega⟩
theorem Chs.far {wB : World} {lo : Option Addr} {m : Nat} {D : Nat → ChD} (h : Chs wB lo m D) : (0 < m → ∀ c, lo = some c → c.block < wB.heap.size) ∧ ∀ i, i < m → 0 < (D i).bl → ∀ c, (D i).ba = some c → c.block < wB.heap.size := by
  refine ⟨fun hn c hc => ?_, fun i hi hb c hc => ?_⟩
  · obtain ⟨b, off, e, hl, _⟩ := h.here hn
    rw [e] at hc
    cases hc
    exact hl
  · obtain ⟨b, off, e, hl, _⟩ := (h.ok i hi).bs.here hb
    rw [e] at hc
    cases hc
    exact hl
theorem Pl.commit {wB w : World} {p q : Nat} {F G : Nat → Prop} {S T : St} (h : Pl wB w p q F G S T) (M F1 R : Int) (lo : Option Addr) (m lc : Nat) (D : Nat → ChD) (hg : (Lg.mk M F1 R).Ok) (hc : Chs wB lo m D) :
    Calls Tryz.prog 8 #[.pointer (some ⟨p, 0, none⟩), .agg #[.int .i64 M, .int .i64 F1, .int .i64 R], .slice lo m lc] w fun e w' => e = .returned (.int .i64 (commitE S ⟨M, F1, R⟩ (saysN D m))) ∧ ∃ F', Pl wB w' p q F' G (commitS S ⟨M, F1, R⟩ (saysN D m)) T ∧ Goes F w F' w' :=
  (commit_any h.d M F1 R lo m lc D hg (hc.below h.bel) (fun i hi hb c hca => (h.noF (hc.far.2 i hi hb c hca)).1)).mono fun e w' ⟨h1, F', h2, h3⟩ => ⟨h1, F', h.pm h2 h3, h3⟩
theorem Pl.rcommit {wB w : World} {p q : Nat} {F G : Nat → Prop} {S T : St} (h : Pl wB w p q F G S T) (M F1 R : Int) (lo : Option Addr) (m lc : Nat) (D : Nat → ChD) (hg : (Lg.mk M F1 R).Ok) (hc : Chs wB lo m D) :
    Calls Tryz.prog 9 #[.pointer (some ⟨q, 0, none⟩), .agg #[.int .i64 M, .int .i64 F1, .int .i64 R], .slice lo m lc] w fun e w' => e = .returned (.int .i64 (commitE T ⟨M, F1, R⟩ (saysN D m))) ∧ Pl wB w' p q F G S (commitS T ⟨M, F1, R⟩ (saysN D m)) ∧ Goes G w G w' :=
  (refcommit_any h.r M F1 R lo m lc D hg (hc.below h.bel) (fun hn c hca => (h.noF (hc.far.1 hn c hca)).2) (fun i hi hb c hca => (h.noF (hc.far.2 i hi hb c hca)).2)).mono fun e w' ⟨h1, h2, h3⟩ => ⟨h1, h.rf h2 h3, h3⟩
theorem Pl.recover {wB w : World} {p q : Nat} {F G : Nat → Prop} {S T : St} (h : Pl wB w p q F G S T) (M F1 R : Int) (hg : (Lg.mk M F1 R).Ok) :
    Calls Tryz.prog 10 #[.pointer (some ⟨p, 0, none⟩), .agg #[.int .i64 M, .int .i64 F1, .int .i64 R]] w fun e w' => e = .returned (.tuple #[.int .i64 (recovN S ⟨M, F1, R⟩), .int .i64 (recovE S ⟨M, F1, R⟩)]) ∧ ∃ F', Pl wB w' p q F' G (recovS S ⟨M, F1, R⟩) T ∧ Goes F w F' w' :=
  (recover_any h.d M F1 R hg).mono fun e w' ⟨h1, F', h2, h3⟩ => ⟨h1, F', h.pm h2 h3, h3⟩
theorem Pl.rrecover {wB w : World} {p q : Nat} {F G : Nat → Prop} {S T : St} (h : Pl wB w p q F G S T) (M F1 R : Int) (hg : (Lg.mk M F1 R).Ok) :
    Calls Tryz.prog 11 #[.pointer (some ⟨q, 0, none⟩), .agg #[.int .i64 M, .int .i64 F1, .int .i64 R]] w fun e w' => e = .returned (.tuple #[.int .i64 (recovN T ⟨M, F1, R⟩), .int .i64 (recovE T ⟨M, F1, R⟩)]) ∧ Pl wB w' p q F G S (recovS T ⟨M, F1, R⟩) ∧ Goes G w G w' :=
  (refrecov_any h.r M F1 R hg).mono fun e w' ⟨h1, h2, h3⟩ => ⟨h1, h.rf h2 h3, h3⟩
theorem Pl.arm {wB w : World} {p q : Nat} {F G : Nat → Prop} {S T : St} (h : Pl wB w p q F G S T) (n : Int) (hn : Rg n) :
    Calls Tryz.prog 12 #[.pointer (some ⟨p, 0, none⟩), .int .i64 n] w fun e w' => e = .returned (.tuple #[]) ∧ Pl wB w' p q F G { S with armed := max n 0 } T ∧ Goes F w F w' :=
  (arm_any h.d n hn).mono fun e w' ⟨h1, h2, h3, _⟩ => ⟨h1, h.pm h2 h3, h3⟩
theorem Pl.rarm {wB w : World} {p q : Nat} {F G : Nat → Prop} {S T : St} (h : Pl wB w p q F G S T) (n : Int) (hn : Rg n) :
    Calls Tryz.prog 13 #[.pointer (some ⟨q, 0, none⟩), .int .i64 n] w fun e w' => e = .returned (.tuple #[]) ∧ Pl wB w' p q F G S { T with armed := max n 0 } ∧ Goes G w G w' :=
  (h.r.arm n hn).mono fun e w' ⟨h1, h2, h3⟩ => ⟨h1, h.rf h2 h3, h3⟩
theorem PlayOk.far {wB : World} {A : PlayD} (h : PlayOk wB A) : 0 < A.kl → ∀ c, A.ka = some c → c.block < wB.heap.size := fun hn c hc => by
  obtain ⟨b, off, e, hl, _⟩ := h.k.here hn
  rw [e] at hc
  cases hc
  exact hl
theorem Pl.crash {wB w : World} {p q : Nat} {F G : Nat → Prop} {S T : St} (h : Pl wB w p q F G S T) (A : PlayD) (hA : PlayOk wB A) :
    Calls Tryz.prog 14 #[.pointer (some ⟨p, 0, none⟩), .slice A.ka A.kl A.kc] w fun e w' => e = .returned (.tuple #[]) ∧ Pl wB w' p q F G (crashS S A.kz) T ∧ Goes F w F w' :=
  (crash_all h.d A.ka A.kl A.kc A.kz (hA.below h.bel).k hA.k9 (fun hb c hca => (h.noF (hA.far hb c hca)).1)).mono fun e w' ⟨h1, h2, h3⟩ => ⟨h1, h.pm h2 h3, h3⟩
theorem Pl.rcrash {wB w : World} {p q : Nat} {F G : Nat → Prop} {S T : St} (h : Pl wB w p q F G S T) (A : PlayD) (hA : PlayOk wB A) :
    Calls Tryz.prog 15 #[.pointer (some ⟨q, 0, none⟩), .slice A.ka A.kl A.kc] w fun e w' => e = .returned (.tuple #[]) ∧ ∃ G', Pl wB w' p q F G' S (crashS T A.kz) ∧ Goes G w G' w' :=
  (h.r.crash A.ka A.kl A.kc A.kz (hA.below h.bel).k hA.k9 (fun hb c hca => (h.noF (hA.far hb c hca)).2)).mono fun e w' ⟨h1, G', h2, h3⟩ => ⟨h1, G', h.rf h2 h3, h3⟩
end Go.Proofs.YtgiippbjieecmaaGreat
