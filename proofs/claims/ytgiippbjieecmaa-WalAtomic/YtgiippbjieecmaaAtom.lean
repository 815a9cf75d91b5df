/- All changes or none: the images that a crash may leave of a commit and of recoveries. -/
import Derived.Test.YtgiippbjieecmaaLain
import Derived.Test.YtgiippbjieecmaaMgC
import Derived.Test.YtgiippbjieecmaaRecoverP
namespace Go.Proofs.Ytgiippbjieecmaa
set_option maxRecDepth 100000
open Go.RowKit
set_option linter.unusedVariables false

/-- The mark is one of no records, and all that is not the log's is a's. -/
structure Res (n : Nat) (g : Lg) (a y : List Int) : Prop where
  len : y.length = 64 * n
  mm : lineAt y g.mark.toNat = List.replicate 64 0
  fr : ∀ j, j < n → mineG g (j : Int) = false → lineAt y j = lineAt a j
/-- The mark and the records are there; each other line is as it was, or as it shall be. -/
structure Logd (n : Nat) (g : Lg) (z : List Int) (l : List Chg) (y : List Int) : Prop where
  len : y.length = 64 * n
  ne : l ≠ []
  mm : lineAt y g.mark.toNat = markL (recsL l)
  rc : ∀ t, t < 2 * l.length → lineAt y (g.first.toNat + t) = lineAt (recsL l) t
  fr : ∀ j, j < n → mineG g (j : Int) = false → lineAt y j = lineAt z j ∨ lineAt y j = lineAt (layN z l) j
structure Cfg (n : Nat) (g : Lg) (z : List Int) (l : List Chg) : Prop where
  zl : z.length = 64 * n
  n1 : n ≤ 4096
  gr : RightG g n
  lr : rightL n l = true
  wr : writeE g l = 0
  bs : ∀ c ∈ l, Bytes c.2
  mz : lineAt z g.mark.toNat = List.replicate 64 0

theorem Cfg.mine {n : Nat} {g : Lg} {z : List Int} {l : List Chg} (C : Cfg n g z l) (j : Int) : mineG g j = true ↔ j = g.mark ∨ (g.first ≤ j ∧ j < g.first + 2 * g.room) := by
  have h := rightG_iff.2 (C.gr.mono (m := 4096) (by have := C.n1; omega))
  unfold mineG inG
  rw [h]
  simp
theorem Cfg.free {n : Nat} {g : Lg} {z : List Int} {l : List Chg} (C : Cfg n g z l) {j : Int} (h : mineG g j = false) : j ≠ g.mark ∧ ¬ (g.first ≤ j ∧ j < g.first + 2 * g.room) := by
  have := C.mine j
  rw [h] at this
  simp only [Bool.false_eq_true, false_iff, not_or] at this
  exact this
theorem Cfg.chg {n : Nat} {g : Lg} {z : List Int} {l : List Chg} (C : Cfg n g z l) {c : Chg} (hc : c ∈ l) : c.1 ≠ g.mark ∧ ¬ (g.first ≤ c.1 ∧ c.1 < g.first + 2 * g.room) := by
  refine C.free ?_
  have h := (writeE_zero C.wr).2.2.1
  unfold meetsG at h
  have := List.any_eq_false.1 h c hc
  simpa using this
theorem Cfg.room {n : Nat} {g : Lg} {z : List Int} {l : List Chg} (C : Cfg n g z l) : (l.length : Int) ≤ g.room := (writeE_zero C.wr).2.2.2
theorem Cfg.recs {n : Nat} {g : Lg} {z : List Int} {l : List Chg} (C : Cfg n g z l) : (recsL l).length = 64 * (2 * l.length) := by
  rw [recsL_length (fun c hc => (rightL_mem C.lr hc).2.2)]; omega

/-- What is brought leaves the log alone. -/
theorem Cfg.layM {n : Nat} {g : Lg} {z : List Int} {l : List Chg} (C : Cfg n g z l) {y : List Int} (hy : y.length = 64 * n) : lineAt (layN y l) g.mark.toNat = lineAt y g.mark.toNat :=
  lay_out C.lr (by omega) (fun c hc => by have := C.chg hc; have := C.gr.m0; omega)
theorem Cfg.layR {n : Nat} {g : Lg} {z : List Int} {l : List Chg} (C : Cfg n g z l) {y : List Int} (hy : y.length = 64 * n) {t : Nat} (ht : t < 2 * l.length) : lineAt (layN y l) (g.first.toNat + t) = lineAt y (g.first.toNat + t) :=
  lay_out C.lr (by omega) (fun c hc => by have := C.chg hc; have := C.gr.f0; have := C.room; omega)
theorem Logd.layF {n : Nat} {g : Lg} {z : List Int} {l : List Chg} (C : Cfg n g z l) {y : List Int} (L : Logd n g z l y) {j : Nat} (hj : j < n) (hf : mineG g (j : Int) = false) : lineAt (layN y l) j = lineAt (layN z l) j := by
  by_cases h : ∃ c ∈ l, c.1 = (j : Int)
  · obtain ⟨c, hc, e⟩ := h
    have e2 : c.1.toNat = j := by omega
    have h1 := lay_in C.lr (y := y) (by have := L.len; omega) hc
    have h2 := lay_in C.lr (y := z) (by have := C.zl; omega) hc
    rw [e2] at h1 h2
    rw [h1, h2]
  · have hn : ∀ c ∈ l, c.1 ≠ (j : Int) := fun c hc e => h ⟨c, hc, e⟩
    have h1 := lay_out C.lr (y := y) (by have := L.len; omega) hn
    have h2 := lay_out C.lr (y := z) (by have := C.zl; omega) hn
    rw [h1, h2]
    rcases L.fr j hj hf with e | e
    · exact e
    · rw [e, h2]
theorem Logd.mix {n : Nat} {g : Lg} {z : List Int} {l : List Chg} (C : Cfg n g z l) {y x : List Int} (L : Logd n g z l y) (hx : x.length = 64 * n) (hm : ∀ j, lineAt x j = lineAt y j ∨ lineAt x j = lineAt (layN y l) j) : Logd n g z l x := by
  refine ⟨hx, L.ne, ?_, fun t ht => ?_, fun j hj hf => ?_⟩
  · rcases hm g.mark.toNat with e | e
    · rw [e, L.mm]
    · rw [e, C.layM L.len, L.mm]
  · rcases hm (g.first.toNat + t) with e | e
    · rw [e, L.rc t ht]
    · rw [e, C.layR L.len ht, L.rc t ht]
  · rcases hm j with e | e
    · rw [e]; exact L.fr j hj hf
    · rw [e]; exact Or.inr (L.layF C hj hf)
theorem Logd.unmark {n : Nat} {g : Lg} {z : List Int} {l : List Chg} (C : Cfg n g z l) {y x : List Int} (L : Logd n g z l y) (hfr : ∀ j, j < n → mineG g (j : Int) = false → lineAt y j = lineAt (layN z l) j) (hx : x.length = 64 * n) (hm : ∀ j, lineAt x j = lineAt y j ∨ lineAt x j = lineAt (splice y (g.mark.toNat * 64) (markL [])) j) : Logd n g z l x ∨ Res n g (layN z l) x := by
  have g1 := C.gr.m0
  have g2 := C.gr.m1
  have hl := L.len
  have hp : ∀ j, lineAt (splice y (g.mark.toNat * 64) (markL [])) j = if j = g.mark.toNat then markL [] else lineAt y j := line_put (by omega) (markL_length _)
  have ho : ∀ j, j ≠ g.mark.toNat → lineAt x j = lineAt y j := fun j hj => by
    rcases hm j with e | e
    · exact e
    · rw [e, hp, if_neg hj]
  have hfree : ∀ j, j < n → mineG g (j : Int) = false → lineAt x j = lineAt (layN z l) j := fun j hj hf => by
    rw [ho j (by have := (C.free hf).1; omega)]; exact hfr j hj hf
  rcases hm g.mark.toNat with e | e
  · refine Or.inl ⟨hx, L.ne, by rw [e]; exact L.mm, fun t ht => ?_, fun j hj hf => Or.inr (hfree j hj hf)⟩
    rw [ho _ (by have := C.gr.ap; have := C.gr.f0; have := C.room; omega)]
    exact L.rc t ht
  · exact Or.inr ⟨hx, by rw [e, hp, if_pos rfl, markL_nil], hfree⟩

/-- The end of a commit, which is what a recovery does, too. -/
theorem fin_run {n : Nat} {g : Lg} {z : List Int} {l : List Chg} (C : Cfg n g z l) {y : List Int} {S : St} (L : Logd n g z l y) (h : Cl y S) (hu : Up S) :
    (runE S (finS g.mark.toNat l) = 0 ∧ ∃ x, Res n g (layN z l) x ∧ Cl x (runS S (finS g.mark.toNat l)) ∧ Up (runS S (finS g.mark.toNat l))) ∨
    (runE S (finS g.mark.toNat l) = 5 ∧ ∃ b y', Lain b y' (runS S (finS g.mark.toNat l)) ∧ b.length = 64 * n ∧ ∀ x, x.length = 64 * n → (∀ j, lineAt x j = lineAt b j ∨ lineAt x j = lineAt y' j) → Logd n g z l x ∨ Res n g (layN z l) x) := by
  have g1 := C.gr.m0
  have g2 := C.gr.m1
  have hl := L.len
  have e0 : finS g.mark.toNat l = bringsL l ++ (.fe :: (keepS g.mark.toNat (markL []) ++ [])) := by
    unfold finS
    simp
  have hll : (layN y l).length = y.length := lay_length C.lr (by omega)
  rw [e0]
  rcases lain_bring C.lr (by omega) h.lain h.flu hu (fun j => Or.inl rfl) (.fe :: (keepS g.mark.toNat (markL []) ++ [])) with ⟨T, e1, e2, l1, f1, u1⟩ | ⟨e1, y', l1, H⟩
  · rw [e1, e2]
    rcases lain_fence l1 f1 u1 (keepS g.mark.toNat (markL []) ++ []) with ⟨T', e3, e4, c2, u2⟩ | ⟨e3, l2⟩
    · rw [e3, e4]
      have L3 : Logd n g z l (layN y l) := L.mix C (by omega) (fun j => Or.inr rfl)
      have F3 : ∀ j, j < n → mineG g (j : Int) = false → lineAt (layN y l) j = lineAt (layN z l) j := fun j hj hf => L.layF C hj hf
      rcases lain_keep c2 u2 (a := g.mark.toNat) (ys := markL []) (by rw [markL_length]; omega) [] with ⟨T4, e5, e6, c4, u4⟩ | ⟨e5, y4, hy4, l4⟩
      · refine Or.inl ?_
        rw [e5, e6]
        refine ⟨rfl, _, ?_, c4, u4⟩
        have hp : ∀ j, lineAt (splice (layN y l) (g.mark.toNat * 64) (markL [])) j = if j = g.mark.toNat then markL [] else lineAt (layN y l) j := line_put (by omega) (markL_length _)
        refine ⟨?_, by rw [hp, if_pos rfl, markL_nil], fun j hj hf => ?_⟩
        · rw [splice_length (by rw [markL_length]; omega)]; omega
        · rw [hp, if_neg (by have := (C.free hf).1; omega)]; exact F3 j hj hf
      · refine Or.inr ⟨e5, _, y4, l4, by omega, fun x hx hm => ?_⟩
        refine L3.unmark C F3 hx fun j => ?_
        rcases hy4 with rfl | rfl
        · rcases hm j with e | e <;> exact Or.inl e
        · exact hm j
    · exact Or.inr ⟨e3, _, _, l2, hl, fun x hx hm => Or.inl (L.mix C hx hm)⟩
  · refine Or.inr ⟨e1, _, _, l1, hl, fun x hx hm => Or.inl (L.mix C hx fun j => ?_)⟩
    rcases hm j with e | e
    · exact Or.inl e
    · rw [e]; exact H j
/-- A commit. -/
theorem com_run {n : Nat} {g : Lg} {z : List Int} {l : List Chg} (C : Cfg n g z l) (hne : l ≠ []) {S : St} (h : Cl z S) (hu : Up S) :
    (runE S (comS g l) = 0 ∧ ∃ x, Res n g (layN z l) x ∧ Cl x (runS S (comS g l)) ∧ Up (runS S (comS g l))) ∨
    (runE S (comS g l) = 5 ∧ ∃ b y', Lain b y' (runS S (comS g l)) ∧ b.length = 64 * n ∧ ∀ x, x.length = 64 * n → (∀ j, lineAt x j = lineAt b j ∨ lineAt x j = lineAt y' j) → Res n g z x ∨ Logd n g z l x ∨ Res n g (layN z l) x) := by
  have g1 := C.gr.m0
  have g2 := C.gr.m1
  have g3 := C.gr.f0
  have g4 := C.gr.f1
  have g5 := C.gr.ap
  have hr := C.room
  have hrl := C.recs
  have hz := C.zl
  have hml := markL_length (recsL l)
  have e0 : comS g l = keepS g.first.toNat (recsL l) ++ (keepS g.mark.toNat (markL (recsL l)) ++ finS g.mark.toNat l) := by
    unfold comS
    simp
  rw [e0]
  have hfit : g.first.toNat * 64 + (recsL l).length ≤ z.length := by omega
  have z1o : ∀ j : Nat, ¬ (g.first.toNat ≤ j ∧ j < g.first.toNat + 2 * l.length) → lineAt (splice z (g.first.toNat * 64) (recsL l)) j = lineAt z j := fun j hj => lineAt_out hfit (fun e => hj ((inL_al hrl).1 e))
  have z1m := z1o g.mark.toNat (by omega)
  have z1f : ∀ j, j < n → mineG g (j : Int) = false → lineAt (splice z (g.first.toNat * 64) (recsL l)) j = lineAt z j := fun j hj hf => z1o j (by have := (C.free hf).2; omega)
  have z1r : ∀ t, t < 2 * l.length → lineAt (splice z (g.first.toNat * 64) (recsL l)) (g.first.toNat + t) = lineAt (recsL l) t := fun t ht => lineAt_in hfit (by omega)
  have z1l : (splice z (g.first.toNat * 64) (recsL l)).length = 64 * n := by rw [splice_length hfit]; exact hz
  rcases lain_keep h hu (a := g.first.toNat) (ys := recsL l) hfit (keepS g.mark.toNat (markL (recsL l)) ++ finS g.mark.toNat l) with ⟨T, e1, e2, c1, u1⟩ | ⟨e1, y1, hy1, l1⟩
  · rw [e1, e2]
    generalize splice z (g.first.toNat * 64) (recsL l) = z1 at z1m z1f z1r z1l c1
    clear z1o e1 e2
    have hp : ∀ j, lineAt (splice z1 (g.mark.toNat * 64) (markL (recsL l))) j = if j = g.mark.toNat then markL (recsL l) else lineAt z1 j := line_put (by omega) hml
    rcases lain_keep c1 u1 (a := g.mark.toNat) (ys := markL (recsL l)) (by omega) (finS g.mark.toNat l) with ⟨T', e3, e4, c2, u2⟩ | ⟨e3, y2, hy2, l2⟩
    · rw [e3, e4]
      have L2 : Logd n g z l (splice z1 (g.mark.toNat * 64) (markL (recsL l))) := by
        refine ⟨?_, hne, by rw [hp, if_pos rfl], fun t ht => ?_, fun j hj hf => Or.inl ?_⟩
        · rw [splice_length (by omega)]; exact z1l
        · rw [hp, if_neg (by omega)]; exact z1r t ht
        · rw [hp, if_neg (by have := (C.free hf).1; omega)]; exact z1f j hj hf
      rcases fin_run C L2 c2 u2 with h | ⟨h1, b, y', h2, h3, h4⟩
      · exact Or.inl h
      · exact Or.inr ⟨h1, b, y', h2, h3, fun x hx hm => Or.inr (h4 x hx hm)⟩
    · refine Or.inr ⟨e3, _, y2, l2, z1l, fun x hx hm => ?_⟩
      have hm' : ∀ j, lineAt x j = lineAt z1 j ∨ lineAt x j = lineAt (splice z1 (g.mark.toNat * 64) (markL (recsL l))) j := fun j => by
        rcases hy2 with rfl | rfl
        · rcases hm j with e | e <;> exact Or.inl e
        · exact hm j
      have ho : ∀ j, j ≠ g.mark.toNat → lineAt x j = lineAt z1 j := fun j hj => by
        rcases hm' j with e | e
        · exact e
        · rw [e, hp, if_neg hj]
      have hfr : ∀ j, j < n → mineG g (j : Int) = false → lineAt x j = lineAt z j := fun j hj hf => by
        rw [ho j (by have := (C.free hf).1; omega)]; exact z1f j hj hf
      rcases hm' g.mark.toNat with e | e
      · exact Or.inl ⟨hx, by rw [e, z1m, C.mz], hfr⟩
      · exact Or.inr (Or.inl ⟨hx, hne, by rw [e, hp, if_pos rfl], fun t ht => by rw [ho _ (by omega)]; exact z1r t ht, fun j hj hf => Or.inl (hfr j hj hf)⟩)
  · refine Or.inr ⟨e1, _, y1, l1, hz, fun x hx hm => Or.inl ?_⟩
    have hm' : ∀ j, lineAt x j = lineAt z j ∨ lineAt x j = lineAt (splice z (g.first.toNat * 64) (recsL l)) j := fun j => by
      rcases hy1 with rfl | rfl
      · rcases hm j with e | e <;> exact Or.inl e
      · exact hm j
    refine ⟨hx, ?_, fun j hj hf => ?_⟩
    · rcases hm' g.mark.toNat with e | e
      · rw [e, C.mz]
      · rw [e, z1m, C.mz]
    · rcases hm' j with e | e
      · exact e
      · rw [e]; exact z1f j hj hf

/-- Which image there may be, if Commit told f. -/
def May (n : Nat) (g : Lg) (z : List Int) (l : List Chg) (f : Int) (x : List Int) : Prop := Res n g (layN z l) x ∨ (f ≠ 0 ∧ (Res n g z x ∨ Logd n g z l x))
theorem May.len {n : Nat} {g : Lg} {z : List Int} {l : List Chg} {f : Int} {x : List Int} (h : May n g z l f x) : x.length = 64 * n := by
  rcases h with h | ⟨_, h | h⟩ <;> exact h.len
theorem mk_line (g : Lg) (y : List Int) : mkAt g y = lineAt y g.mark.toNat := by unfold mkAt lineAt; rw [Nat.mul_comm]
theorem Res.read {n : Nat} {g : Lg} {z a : List Int} {l : List Chg} (C : Cfg n g z l) {x : List Int} (h : Res n g a x) : readE g x = 0 ∧ readL g x = [] := read_zeros h.len C.n1 C.gr (by rw [mk_line]; exact h.mm)
theorem Res.recov {n : Nat} {g : Lg} {z a : List Int} {l : List Chg} (C : Cfg n g z l) {x : List Int} {S : St} (h : Res n g a x) (hs : S.seen = x) (hu : Up S) : recovE S g = 0 ∧ recovN S g = 0 ∧ recovS S g = S := by
  obtain ⟨e1, e2⟩ := h.read C
  have hb : recB S g = false := by unfold recB; rw [hs, e2]; simp
  have := recov_idle hu.dn hb
  rw [hs, e1] at this
  exact this
theorem Logd.recov {n : Nat} {g : Lg} {z : List Int} {l : List Chg} (C : Cfg n g z l) {x : List Int} {S : St} (h : Logd n g z l x) (hs : S.seen = x) (hu : Up S) : recovE S g = runE S (finS g.mark.toNat l) ∧ recovS S g = runS S (finS g.mark.toNat l) := by
  have hl := h.len
  have hrl := C.recs
  have g3 := C.gr.f0
  have g4 := C.gr.f1
  have hr := C.room
  have hrs : (x.drop (g.first.toNat * 64)).take (l.length * 128) = recsL l := by
    have e : l.length * 128 = 64 * (2 * l.length) := by omega
    rw [e]
    refine lines_eq (n := 2 * l.length) ?_ hrl (fun t ht => ?_)
    · rw [List.length_take, List.length_drop]; omega
    · rw [lineAt_part ht]; exact h.rc t ht
  obtain ⟨e1, e2⟩ := read_written hl C.n1 C.gr C.wr C.lr C.bs (by rw [mk_line]; exact h.mm) hrs
  have hb : recB S g = true := by unfold recB; rw [hs, e2, e1, hu.dn]; simp [h.ne]
  have := recov_runs hu.dn hb
  rw [hs, e2] at this
  exact ⟨this.1, this.2.2⟩
/-- A recovery, and then a crash. -/
theorem May.step {n : Nat} {g : Lg} {z : List Int} {l : List Chg} (C : Cfg n g z l) {f : Int} {x : List Int} {S : St} (h : May n g z l f x) (hc : Cl x S) (hu : Up S) (hok : (recovS S g).Ok) (keep : List Bool) : ∃ x', crashS (recovS S g) keep = St.new x' ∧ May n g z l f x' := by
  have hres : ∀ a, Res n g a x → crashS (recovS S g) keep = St.new x := fun a ha => by
    have e := (ha.recov C hc.seen hu).2.2
    rw [e] at hok ⊢
    exact crash_cl hok hc keep
  rcases h with h | ⟨hf, h | h⟩
  · exact ⟨x, hres _ h, Or.inl h⟩
  · exact ⟨x, hres _ h, Or.inr ⟨hf, Or.inl h⟩⟩
  · have e := (h.recov C hc.seen hu).2
    rw [e] at hok ⊢
    rcases fin_run C h hc hu with ⟨_, x', r1, r2, _⟩ | ⟨_, b, y', l1, hb, H⟩
    · exact ⟨x', crash_cl hok r2 keep, Or.inl r1⟩
    · obtain ⟨x', c1, c2, c3⟩ := crash_lain hok l1 keep
      refine ⟨x', c1, ?_⟩
      rcases H x' (by rw [c2, l1.len, hb]) c3 with r | r
      · exact Or.inr ⟨hf, Or.inr r⟩
      · exact Or.inl r
theorem finS_in {n : Nat} {g : Lg} {z : List Int} {l : List Chg} (C : Cfg n g z l) : ∀ x ∈ finS g.mark.toNat l, inR (64 * n) x := fun x hx => comS_in C.gr C.lr C.room x (by unfold comS; simp only [List.mem_append]; exact Or.inr hx)
/-- The last recovery, with no failure. -/
theorem May.last {n : Nat} {g : Lg} {z : List Int} {l : List Chg} (C : Cfg n g z l) {f : Int} {x : List Int} {S : St} (h : May n g z l f x) (hc : Cl x S) (hu : Up S) (ha : S.armed = 0) :
    recovE S g = 0 ∧ ∃ x', Cl x' (recovS S g) ∧ (Res n g (layN z l) x' ∨ (f ≠ 0 ∧ Res n g z x')) ∧ recovE (recovS S g) g = 0 ∧ recovN (recovS S g) g = 0 ∧ recovS (recovS S g) g = recovS S g := by
  have hres : ∀ a, Res n g a x → recovE S g = 0 ∧ Cl x (recovS S g) ∧ recovE (recovS S g) g = 0 ∧ recovN (recovS S g) g = 0 ∧ recovS (recovS S g) g = recovS S g := fun a ha => by
    obtain ⟨e1, e2, e3⟩ := ha.recov C hc.seen hu
    rw [e3, e3]
    exact ⟨e1, hc, e1, e2, rfl⟩
  rcases h with h | ⟨hf, h | h⟩
  · obtain ⟨r1, r2, r3⟩ := hres _ h
    exact ⟨r1, x, r2, Or.inl h, r3⟩
  · obtain ⟨r1, r2, r3⟩ := hres _ h
    exact ⟨r1, x, r2, Or.inr ⟨hf, h⟩, r3⟩
  · obtain ⟨e1, e2⟩ := h.recov C hc.seen hu
    have h0 := (run_counts (S := S) (xs := finS g.mark.toNat l) (by rw [hc.seen, h.len]; exact finS_in C) hu.dn hu.a0).2 (by omega)
    rw [e1, e2]
    rcases fin_run C h hc hu with ⟨_, x', r1, r2, r3⟩ | ⟨e5, _⟩
    · obtain ⟨q1, q2, q3⟩ := r1.recov C r2.seen r3
      exact ⟨h0.1, x', r2, Or.inl r1, q1, q2, q3⟩
    · have := h0.1
      omega
/-- A commit, whatever it tells. -/
theorem commit_may {n : Nat} {g : Lg} {z : List Int} {l : List Chg} {S : St} (hz : z.length = 64 * n) (hn : n ≤ 4096) (hg : RightG g n) (hb : ∀ c ∈ l, Bytes c.2) (hm : lineAt z g.mark.toNat = List.replicate 64 0) (hc : Cl z S) (hu : Up S) :
    ((commitE S g l = 1 ∨ commitE S g l = 6) ∧ commitS S g l = S) ∨
    ((commitE S g l = 0 ∨ commitE S g l = 5) ∧ Cfg n g z l ∧ (commitE S g l = 0 → ∃ x, Res n g (layN z l) x ∧ Cl x (commitS S g l)) ∧ ((commitS S g l).Ok → ∀ keep, ∃ x, crashS (commitS S g l) keep = St.new x ∧ May n g z l (commitE S g l) x)) := by
  have hSn : S.n = n := by have := hc.nn; omega
  cases hB : comB S.n g l with
  | false => exact Or.inl ⟨Or.inl (commit_arg hB).1, (commit_arg hB).2⟩
  | true =>
    have hr : rightL n l = true := by
      unfold comB at hB
      rw [hSn] at hB
      simp only [Bool.and_eq_true] at hB
      exact hB.2
    by_cases hw : writeE g l = 0
    · have C : Cfg n g z l := ⟨hz, hn, hg, hr, hw, hb, hm⟩
      refine Or.inr ?_
      by_cases hne : l ≠ []
      · obtain ⟨e1, e2⟩ := commit_runs hB hw hne
        rw [e1, e2]
        rcases com_run C hne hc hu with ⟨r0, x, r1, r2, r3⟩ | ⟨r0, b, y', r1, r2, r3⟩
        · exact ⟨Or.inl r0, C, fun _ => ⟨x, r1, r2⟩, fun hok keep => ⟨x, crash_cl hok r2 keep, Or.inl r1⟩⟩
        · refine ⟨Or.inr r0, C, fun e => by omega, fun hok keep => ?_⟩
          obtain ⟨x, c1, c2, c3⟩ := crash_lain hok r1 keep
          refine ⟨x, c1, ?_⟩
          rcases r3 x (by rw [c2, r1.len, r2]) c3 with r | r | r
          · exact Or.inr ⟨by omega, Or.inl r⟩
          · exact Or.inr ⟨by omega, Or.inr r⟩
          · exact Or.inl r
      · obtain ⟨e1, e2⟩ := commit_same hB (fun e => hne e.2)
        rw [e1, e2, hw]
        have hnil : l = [] := Classical.byContradiction hne
        have R : Res n g (layN z l) z := by subst hnil; exact ⟨hz, hm, fun j _ _ => rfl⟩
        exact ⟨Or.inl rfl, C, fun _ => ⟨z, R, hc⟩, fun hok keep => ⟨z, crash_cl hok hc keep, Or.inl R⟩⟩
    · obtain ⟨e1, e2⟩ := commit_same hB (fun e => hw e.1)
      rw [e1, e2]
      refine Or.inl ⟨?_, rfl⟩
      unfold writeE at hw ⊢
      split
      · rename_i h1
        rw [if_pos h1] at hw
        split
        · exact Or.inr rfl
        · rename_i h2
          rw [if_neg h2] at hw
          exact absurd rfl hw
      · exact Or.inl rfl
end Go.Proofs.Ytgiippbjieecmaa
