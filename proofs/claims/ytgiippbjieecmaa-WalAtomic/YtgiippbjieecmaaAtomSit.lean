/- A device among arguments that came in: what stays, call by call. -/
import Derived.Test.YtgiippbjieecmaaAtom
import Derived.Test.YtgiippbjieecmaaOthers
import Derived.Test.YtgiippbjieecmaaOpenFall
import Derived.Test.YtgiippbjieecmaaMgH
import Derived.Test.YtgiippbjieecmaaDirty
namespace Go.Proofs.Ytgiippbjieecmaa
set_option maxRecDepth 100000
open Go.RowKit
set_option linter.unusedVariables false

theorem FallOk.below {w w' : World} {A : FallD} (h : FallOk w A) (hb : Below w.heap.size w w') : FallOk w' A := ⟨h.n, h.k.below hb, h.k9⟩
theorem Falls.below {w w' : World} {a : Option Addr} {len : Nat} {D : Nat → FallD} (h : Falls w a len D) (hb : Below w.heap.size w w') : Falls w' a len D := by
  refine ⟨h.m, fun hn => ?_, fun i hi => (h.each i hi).below hb⟩
  obtain ⟨b, off, e, hl, hc⟩ := h.here hn
  refine ⟨b, off, e, Nat.lt_of_lt_of_le hl hb.size, fun i hi => ?_⟩
  rw [hb.cell (p := ⟨b, off + i * 2, none⟩) hl, hb.cell (p := ⟨b, off + i * 2 + 1, none⟩) hl]
  exact hc i hi
/-- The device p with datum S, all of whose blocks are new since wB; what was there at wB is as it was. -/
structure Sat (wB w : World) (F : Nat → Prop) (p : Nat) (S : St) : Prop where
  dev : Dev w F p S
  new : ∀ k, F k → wB.heap.size ≤ k
  bel : Below wB.heap.size wB w
theorem Sat.goes {wB w w' : World} {F F' : Nat → Prop} {p : Nat} {S S' : St} (h : Sat wB w F p S) (g : Goes F w F' w') (d : Dev w' F' p S') : Sat wB w' F' p S' :=
  ⟨d, fun k hk => by
    rcases g.new k hk with e | e
    · exact h.new k e
    · exact Nat.le_trans h.bel.size e, h.bel.trans (g.off.below h.new h.bel.size)⟩
theorem Sat.below {wB w w' : World} {F : Nat → Prop} {p : Nat} {S : St} (h : Sat wB w F p S) (hb : Below w.heap.size w w') : Sat wB w' F p S := ⟨h.dev.below hb, h.new, next h.bel hb⟩
theorem Sat.drew {wB w : World} {F : Nat → Prop} {p : Nat} {S : St} (h : Sat wB w F p S) : Sat wB w.drew F p S := h.below (below_drew (Below.refl _ _))
theorem Sat.arm {wB w : World} {F : Nat → Prop} {p : Nat} {S : St} (h : Sat wB w F p S) (n : Int) (hn : Rg n) :
    Calls Try.prog 24 #[.pointer (some ⟨p, 0, none⟩), .int .i64 n] w fun e w' => e = .returned (.tuple #[]) ∧ Sat wB w' F p { S with armed := max n 0 } ∧ Goes F w F w' :=
  (arm_any h.dev n hn).mono fun e w' ⟨h1, h2, h3, _⟩ => ⟨h1, h.goes h3 h2, h3⟩
theorem Sat.commit {wB w : World} {F : Nat → Prop} {p : Nat} {S : St} (h : Sat wB w F p S) (M F1 R : Int) (lo : Option Addr) (m lc : Nat) (D : Nat → ChD) (hg : (Lg.mk M F1 R).Ok) (hc : Chs wB lo m D) :
    Calls Try.prog 25 #[.pointer (some ⟨p, 0, none⟩), .agg #[.int .i64 M, .int .i64 F1, .int .i64 R], .slice lo m lc] w fun e w' => e = .returned (.int .i64 (commitE S ⟨M, F1, R⟩ (saysN D m))) ∧ ∃ F', Sat wB w' F' p (commitS S ⟨M, F1, R⟩ (saysN D m)) ∧ Goes F w F' w' := by
  refine (commit_any h.dev M F1 R lo m lc D hg (hc.below h.bel) (fun i hi hb c hca hf => ?_)).mono fun e w' ⟨h1, F', h2, h3⟩ => ⟨h1, F', h.goes h3 h2, h3⟩
  obtain ⟨b, off, e, hl, _⟩ := (hc.ok i hi).bs.here hb
  rw [e] at hca
  cases hca
  have := h.new _ hf
  simp only at this
  omega
theorem Sat.recover {wB w : World} {F : Nat → Prop} {p : Nat} {S : St} (h : Sat wB w F p S) (M F1 R : Int) (hg : (Lg.mk M F1 R).Ok) :
    Calls Try.prog 31 #[.pointer (some ⟨p, 0, none⟩), .agg #[.int .i64 M, .int .i64 F1, .int .i64 R]] w fun e w' => e = .returned (.tuple #[.int .i64 (recovN S ⟨M, F1, R⟩), .int .i64 (recovE S ⟨M, F1, R⟩)]) ∧ ∃ F', Sat wB w' F' p (recovS S ⟨M, F1, R⟩) ∧ Goes F w F' w' :=
  (recover_any h.dev M F1 R hg).mono fun e w' ⟨h1, F', h2, h3⟩ => ⟨h1, F', h.goes h3 h2, h3⟩
theorem Sat.crash {wB w : World} {F : Nat → Prop} {p : Nat} {S : St} (h : Sat wB w F p S) (A : FallD) (hk : FallOk wB A) :
    Calls Try.prog 30 #[.pointer (some ⟨p, 0, none⟩), .slice A.ka A.kl A.kc] w fun e w' => e = .returned (.tuple #[]) ∧ Sat wB w' F p (crashS S A.kz) ∧ Goes F w F w' := by
  refine (crash_all h.dev A.ka A.kl A.kc A.kz (hk.below h.bel).k hk.k9 (fun hb c hca hf => ?_)).mono fun e w' ⟨h1, h2, h3⟩ => ⟨h1, h.goes h3 h2, h3⟩
  obtain ⟨b, off, e, hl, _⟩ := hk.k.here hb
  rw [e] at hca
  cases hca
  have := h.new _ hf
  simp only at this
  omega
theorem Sat.image {wB w : World} {F : Nat → Prop} {p n : Nat} {S : St} {y : List Int} (h : Sat wB w F p S) (hc : Cl y S) (hn : y.length = n) :
    Calls Try.prog 26 #[.pointer (some ⟨p, 0, none⟩)] w fun e w' => ∃ g c, e = .returned (.slice (some ⟨g, 0, none⟩) n c) ∧ Own .u8 5 w.heap.size w' (some ⟨g, 0, none⟩) n c y ∧ Below w.heap.size w w' := by
  have hi := image_any h.dev
  rw [hc.lasts, hc.seen, hn] at hi
  exact hi
theorem Sat.dirty {wB w : World} {F : Nat → Prop} {p : Nat} {S : St} {y : List Int} (h : Sat wB w F p S) (hc : Cl y S) :
    Calls Try.prog 27 #[.pointer (some ⟨p, 0, none⟩)] w fun e w' => ∃ ao c, e = .returned (.slice ao 0 c) ∧ Below w.heap.size w w' := by
  have hi := dirty_any h.dev
  rw [hc.dirty] at hi
  exact hi.mono fun e w' ⟨ao, c, h1, _, h3⟩ => ⟨ao, c, h1, h3⟩
/-- Bytes a in a block that is not the device's. -/
structure Has (w : World) (F : Nat → Prop) (ga n c : Nat) (a : List Int) : Prop where
  sl : Sl .u8 w (some ⟨ga, 0, none⟩) n c a
  no : ¬ F ga
  lt : ga < w.heap.size
theorem Has.goes {w w' : World} {F F' : Nat → Prop} {ga n c : Nat} {a : List Int} (h : Has w F ga n c a) (g : Goes F w F' w') : Has w' F' ga n c a :=
  ⟨h.sl.off g.off (fun _ c hc => by cases hc; exact h.no), fun hf => by
    rcases g.new ga hf with e | e
    · exact h.no e
    · have := h.lt; omega, Nat.lt_of_lt_of_le h.lt g.off.size⟩
theorem Has.below {w w' : World} {F : Nat → Prop} {ga n c : Nat} {a : List Int} (h : Has w F ga n c a) (hb : Below w.heap.size w w') : Has w' F ga n c a := h.goes (Goes.of_below hb)
theorem has_of {wB w w' : World} {F : Nat → Prop} {p : Nat} {S : St} {ga n c : Nat} {a : List Int} (h : Sat wB w F p S) (o : Own .u8 5 w.heap.size w' (some ⟨ga, 0, none⟩) n c a) : Has w' F ga n c a :=
  ⟨o.sl, fun hf => by have := h.dev.bound _ hf; have := o.base.1; omega, o.base.2⟩
/-- What came in, and the boxes of the log and of the first failure. -/
structure Args (w : World) (gb : Nat) (M F1 R : Int) (a0 : Option Addr) (n cap : Nat) (z : List Int) (lo : Option Addr) (m : Nat) (D : Nat → ChD) (A : FallD) (fo : Option Addr) (fl : Nat) (E : Nat → FallD) : Prop where
  lg : LogAt w gb M F1 R
  fb : gb + 1 < w.heap.size
  f0 : w.cell? ⟨gb + 1, 0, none⟩ = some (.int .i64 A.n)
  f1 : w.cell? ⟨gb + 1, 1, none⟩ = some (.slice A.ka A.kl A.kc)
  im : Sl .u8 w a0 n cap z
  ch : Chs w lo m D
  fk : FallOk w A
  fs : Falls w fo fl E
theorem Args.below {w w' : World} {gb : Nat} {M F1 R : Int} {a0 : Option Addr} {n cap : Nat} {z : List Int} {lo : Option Addr} {m : Nat} {D : Nat → ChD} {A : FallD} {fo : Option Addr} {fl : Nat} {E : Nat → FallD} (h : Args w gb M F1 R a0 n cap z lo m D A fo fl E) (hb : Below w.heap.size w w') : Args w' gb M F1 R a0 n cap z lo m D A fo fl E :=
  ⟨h.lg.below hb, Nat.lt_of_lt_of_le h.fb hb.size, (hb.cell (p := ⟨gb + 1, 0, none⟩) h.fb).trans h.f0, (hb.cell (p := ⟨gb + 1, 1, none⟩) h.fb).trans h.f1, h.im.below hb, h.ch.below hb, h.fk.below hb, h.fs.below hb⟩
theorem args_new {w : World} {M F1 R : Int} {a0 : Option Addr} {n cap : Nat} {z : List Int} {lo : Option Addr} {m : Nat} {D : Nat → ChD} {A : FallD} {fo : Option Addr} {fl : Nat} {E : Nat → FallD} (im : Sl .u8 w a0 n cap z) (ch : Chs w lo m D) (fk : FallOk w A) (fs : Falls w fo fl E) :
    Args ((w.alloc (.cells #[.int .i64 M, .int .i64 F1, .int .i64 R] 23)).alloc (.cells #[.int .i64 A.n, .slice A.ka A.kl A.kc] 44)) w.heap.size M F1 R a0 n cap z lo m D A fo fl E ∧
    Below w.heap.size w ((w.alloc (.cells #[.int .i64 M, .int .i64 F1, .int .i64 R] 23)).alloc (.cells #[.int .i64 A.n, .slice A.ka A.kl A.kc] 44)) := by
  have h1 := (Below.refl w.heap.size w).alloc (Nat.le_refl _) (.cells #[.int .i64 M, .int .i64 F1, .int .i64 R] 23)
  have h2 : Below (w.alloc (.cells #[.int .i64 M, .int .i64 F1, .int .i64 R] 23)).heap.size (w.alloc (.cells #[.int .i64 M, .int .i64 F1, .int .i64 R] 23)) ((w.alloc (.cells #[.int .i64 M, .int .i64 F1, .int .i64 R] 23)).alloc (.cells #[.int .i64 A.n, .slice A.ka A.kl A.kc] 44)) := (Below.refl _ _).alloc (Nat.le_refl _) _
  have hb := next h1 h2
  exact ⟨⟨(logAt_new w M F1 R).below h2, by simp, by simp, by simp, im.below hb, ch.below hb, fk.below hb, fs.below hb⟩, hb⟩
/-- The bytes of the mark's line. -/
theorem mark_zeros {z : List Int} {n mk : Nat} (hz : z.length = n) (h : 64 * mk + 64 ≤ n) (hall : ∀ j, j < 64 → z.getD (64 * mk + j) 0 = 0) : lineAt z mk = List.replicate 64 0 := by
  apply List.ext_getElem?
  intro q
  unfold lineAt
  rw [List.getElem?_take, List.getElem?_replicate]
  by_cases hq : q < 64
  · rw [if_pos hq, if_pos hq, List.getElem?_drop]
    have := hall q hq
    rw [List.getD_eq_getElem?_getD] at this
    rw [List.getElem?_eq_getElem (by omega)] at this ⊢
    simpa using this
  · rw [if_neg hq, if_neg hq]
theorem okA_right {n : Nat} {l : List Chg} (h : rightL n l = true) : okA n l = true := by
  unfold okA
  rw [List.all_eq_true]
  intro c hc
  have := rightL_mem h hc
  exact fitsB_mk this
theorem others_of (M F R : Int) (ao : Option Addr) (n N cap : Nat) (z : List Int) (w : World) (hg : (Lg.mk M F R).Ok) (hsl : Sl .u8 w ao n cap z) (hn : n ≤ 8192) (hN : n = 64 * N) (Y : List Int) (hY : othersN ⟨M, F, R⟩ z N = Y) :
    Calls Try.prog 29 #[.agg #[.int .i64 M, .int .i64 F, .int .i64 R], .slice ao n cap] w fun e w' => e = .returned (.string (strOfNums Y)) ∧ Below w.heap.size w w' := by
  have h := others_any M F R ao n cap z w hg hsl hn
  rw [show n / 64 = N by omega, hY] at h
  exact h
theorem Res.others {n : Nat} {g : Lg} {a x : List Int} (h : Res n g a x) : othersN g x n = othersN g a n := othersN_congr h.fr
end Go.Proofs.Ytgiippbjieecmaa
