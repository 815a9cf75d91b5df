/- joistref09.Set and Drop by their contracts. -/
import Derived.Test.YtmefepjjlhphnaaRefRootB
namespace Go.Proofs.Ytmefepjjlhphnaa
set_option maxRecDepth 100000
open Go.RowKit
set_option linter.unusedVariables false
set_option linter.unusedSimpArgs false
set_option maxRecDepth 100000

theorem nextE {w a : World} (h : Below w.heap.size w a) (o : Obj) : Below w.heap.size w (a.alloc o) := h.alloc h.size o
set_option maxHeartbeats 2000000 in
theorem rset_ok (b off n cap k : Nat) (l : List Rt) (x : ByteArray) (I G : Int) (w : World) (h : Rs w (some ⟨b, off, none⟩) n cap l) (hn : n ≤ 1000) (hx : x.size ≤ 9223372036854775807) (hc : ckE l x = 0) (hh : RightH I G) (hk : stO l x = some k) :
    Calls Try.prog 18 #[.slice (some ⟨b, off, none⟩) n cap, .string x, .agg #[.int .i64 I, .int .i64 G]] w fun e w' => ∃ bo c, e = .returned (.tuple #[.slice bo n c, .int .i64 0]) ∧ OwR w.heap.size w' bo n c (l.set k ⟨x, I, G⟩) ∧ Below w.heap.size w w' := by
  have hl := h.len
  have bX : Below w.heap.size w (w.alloc (.cells #[.int .i64 I, .int .i64 G] 29)) := (Below.refl _ w).alloc (Nat.le_refl _) _
  have hX := bxR_new w I G
  have cC := asks_rs _ n cap l x _ (h.below bX) (by omega) hx
  rw [hc] at cC
  have cH := refHRight_any I G
  rw [rightHB_t hh] at cH
  have cA : ∀ y w2, Below w.heap.size w w2 → Calls Try.prog 23 #[.slice (some ⟨b, off, none⟩) n cap, .string y] w2 fun e w' => e = .returned (.int .i64 (plI l y)) ∧ w2 = w' := fun y w2 hb2 => at_rs _ n cap l y w2 (h.below hb2) (by omega)
  have hkl := (stO_spec hk).1
  have hkn : k < n := by omega
  have hki : (k : Int) < (n : Int) := by omega
  have hk0 : ¬ ((k : Int) < 0) := by omega
  have HT := hid h
  have hb32 : (0 + n) * 32 ≤ 140737488355328 := by omega
  obtain ⟨m, hm⟩ : ∃ m, l.set k ⟨x, I, G⟩ = m := ⟨_, rfl⟩
  have Hset : Hid (∀ (g c : Nat) (w4 : World), OwR w.heap.size w4 (some ⟨g, 0, none⟩) n c l → OwR w.heap.size (((w4.setCell ⟨g, k * 3, none⟩ (.string x)).setCell ⟨g, k * 3 + 1, none⟩ (.int .i64 I)).setCell ⟨g, k * 3 + 2, none⟩ (.int .i64 G)) (some ⟨g, 0, none⟩) n c m) := fun g c w4 ho => by
    have := ho.set (s := ⟨x, I, G⟩) hkn hx
    rwa [hm] at this
  rw [hm]
  have cX := cA x
  have cE := cA ⟨#[]⟩
  have cases2 : (plI l x = k) ∨ (plI l x = -1 ∧ plI l ⟨#[]⟩ = k) := by
    unfold stO at hk
    cases hp : plO l x with
    | some j =>
      rw [(pl_t hp).2, if_pos rfl, hp] at hk
      cases hk
      exact Or.inl (plI_t hp)
    | none =>
      rw [(pl_f hp).2] at hk
      exact Or.inr ⟨plI_f hp, plI_t hk⟩
  clear h hm hk hc hh cA hkl
  rcases cases2 with e1 | ⟨e1, e2⟩
  · rw [e1] at cX
    clear e1 cE
    go_enter Try.func18, Try.ntmps18
    go_wp2_with (first
      | (go_at_call 22; with_reducible refine cC.mono ?_; rintro e w1 ⟨rfl, hb1⟩; have b1 := next bX hb1; have hX1 := hX.kept hb1; obtain ⟨x0, x1, x2, x3⟩ := hX1.cells)
      | (go_at_call 27; with_reducible refine (cH _).mono ?_; rintro e w2 ⟨rfl, hb2⟩; have b2 := next b1 hb2; have hX2 := hX1.kept hb2)
      | (go_at_call 23; with_reducible refine (cX _ b2).mono ?_; rintro e w3 ⟨rfl, rfl⟩)
      | (at_builtin; refine append_rs rfl (.tmp 31) (.tmp 32) rfl w.heap.size _ 0 [] rfl (own_emptyR w.heap.size w2 b2.size) (by intro x hx; cases hx) (some ⟨b, off, none⟩) n cap l rfl (HT.out.below (nextE b2 _)) hb32 (Nat.le_trans b2.size (by simp)) ?_))
    intro bo c' w4 ho4 hg4
    have b4 : Below w.heap.size w w4 := (nextE b2 (.cells #[] 37)).grown hg4 (Nat.le_trans b2.size (by simp)) (by intro j hj; cases hj; exact b2.size)
    have hlt2 : w.heap.size < w2.heap.size := (Array.getElem?_eq_some_iff.1 hX2).1
    have hX4 : BxR w4 w.heap.size I G := by
      have h1 := hX2.more (.cells #[] 37)
      exact (hg4.block w.heap.size (by simp; omega) (by intro e; simp [Value.ownBlock] at e; omega)).trans h1
    obtain ⟨g4, rfl, _, _⟩ := ho4.shape (by omega)
    obtain ⟨y0, y1, _, _⟩ := hX4.cells
    have s4 := ho4.rs.at (Below.refl _ _) hkn
    rw [Nat.zero_add] at s4
    obtain ⟨q0, q1, q2⟩ := s4
    have f0 := ho4.free (k * 3)
    have f1 := ho4.free (k * 3 + 1)
    have f2 := ho4.free (k * 3 + 2)
    have hgw : w.heap.size ≤ g4 := (ho4.row.lt g4 rfl).1
    have HO := hid (Hset.out g4 c' w4 ho4)
    clear ho4 hg4 Hset HT hX hX1 hX2 hX4
    go_wp2
    go_ret2
    exact ⟨some ⟨g4, 0, none⟩, c', rfl, HO.out, ((b4.setCell hgw _).setCell hgw _).setCell hgw _⟩
  · rw [e1] at cX
    rw [e2] at cE
    clear e1 e2
    go_enter Try.func18, Try.ntmps18
    go_wp2_with (first
      | (go_at_call 22; with_reducible refine cC.mono ?_; rintro e w1 ⟨rfl, hb1⟩; have b1 := next bX hb1; have hX1 := hX.kept hb1; obtain ⟨x0, x1, x2, x3⟩ := hX1.cells)
      | (go_at_call 27; with_reducible refine (cH _).mono ?_; rintro e w2 ⟨rfl, hb2⟩; have b2 := next b1 hb2; have hX2 := hX1.kept hb2)
      | (go_at_call 23; with_reducible refine (cX _ b2).mono ?_; rintro e w3 ⟨rfl, rfl⟩)
      | (go_at_call 23; with_reducible refine (cE _ b2).mono ?_; rintro e w3 ⟨rfl, rfl⟩)
      | (at_builtin; refine append_rs rfl (.tmp 31) (.tmp 32) rfl w.heap.size _ 0 [] rfl (own_emptyR w.heap.size w2 b2.size) (by intro x hx; cases hx) (some ⟨b, off, none⟩) n cap l rfl (HT.out.below (nextE b2 _)) hb32 (Nat.le_trans b2.size (by simp)) ?_))
    intro bo c' w4 ho4 hg4
    have b4 : Below w.heap.size w w4 := (nextE b2 (.cells #[] 37)).grown hg4 (Nat.le_trans b2.size (by simp)) (by intro j hj; cases hj; exact b2.size)
    have hlt2 : w.heap.size < w2.heap.size := (Array.getElem?_eq_some_iff.1 hX2).1
    have hX4 : BxR w4 w.heap.size I G := by
      have h1 := hX2.more (.cells #[] 37)
      exact (hg4.block w.heap.size (by simp; omega) (by intro e; simp [Value.ownBlock] at e; omega)).trans h1
    obtain ⟨g4, rfl, _, _⟩ := ho4.shape (by omega)
    obtain ⟨y0, y1, _, _⟩ := hX4.cells
    have s4 := ho4.rs.at (Below.refl _ _) hkn
    rw [Nat.zero_add] at s4
    obtain ⟨q0, q1, q2⟩ := s4
    have f0 := ho4.free (k * 3)
    have f1 := ho4.free (k * 3 + 1)
    have f2 := ho4.free (k * 3 + 2)
    have hgw : w.heap.size ≤ g4 := (ho4.row.lt g4 rfl).1
    have HO := hid (Hset.out g4 c' w4 ho4)
    clear ho4 hg4 Hset HT hX hX1 hX2 hX4
    go_wp2
    go_ret2
    exact ⟨some ⟨g4, 0, none⟩, c', rfl, HO.out, ((b4.setCell hgw _).setCell hgw _).setCell hgw _⟩
/-- joistref09.Set. -/
theorem rset_rs (ao : Option Addr) (n cap : Nat) (l : List Rt) (x : ByteArray) (I G : Int) (w : World) (h : Rs w ao n cap l) (hn : n ≤ 9223372036854775806) (hx : x.size ≤ 9223372036854775807) :
    Calls Try.prog 18 #[.slice ao n cap, .string x, .agg #[.int .i64 I, .int .i64 G]] w fun e w' => ∃ bo m c, e = .returned (.tuple #[.slice bo m c, .int .i64 (stE l x I G)]) ∧ OwR w.heap.size w' bo m c (stL l x I G) ∧ Below w.heap.size w w' := by
  have hl := h.len
  have bX : Below w.heap.size w (w.alloc (.cells #[.int .i64 I, .int .i64 G] 29)) := (Below.refl _ w).alloc (Nat.le_refl _) _
  have hX := bxR_new w I G
  have cC := asks_rs ao n cap l x _ (h.below bX) hn hx
  by_cases hc : ckE l x = 0
  · obtain ⟨hr, hx2⟩ := ck_zero hc
    have hlen := hr.len
    by_cases hh : RightH I G
    · cases hk : stO l x with
      | some k =>
        obtain ⟨b, off, rfl, _, _⟩ := h.here (by omega)
        obtain ⟨e1, e2, _⟩ := st_t hr hx2 hh hk
        rw [e1, e2]
        refine (rset_ok b off n cap k l x I G w h (by omega) hx hc hh hk).mono ?_
        rintro e w' ⟨bo, c, rfl, ho, hb⟩
        exact ⟨bo, n, c, rfl, ho, hb⟩
      | none =>
        obtain ⟨e1, e2, _⟩ := st_full hr hx2 hh hk
        rw [e1, e2]
        rw [hc] at cC
        have cH := refHRight_any I G
        rw [rightHB_t hh] at cH
        have cA : ∀ y w2, Below w.heap.size w w2 → Calls Try.prog 23 #[.slice ao n cap, .string y] w2 fun e w' => e = .returned (.int .i64 (plI l y)) ∧ w2 = w' := fun y w2 hb2 => at_rs _ n cap l y w2 (h.below hb2) (by omega)
        have cX := cA x
        have cE := cA ⟨#[]⟩
        have cases2 : plI l x = -1 ∧ plI l ⟨#[]⟩ = -1 := by
          unfold stO at hk
          cases hp : plO l x with
          | some j => rw [(pl_t hp).2, if_pos rfl, hp] at hk; cases hk
          | none =>
            rw [(pl_f hp).2] at hk
            exact ⟨plI_f hp, plI_f hk⟩
        rw [cases2.1] at cX
        rw [cases2.2] at cE
        clear e1 e2 cases2 h hr hx2 hh hk hc cA
        go_enter Try.func18, Try.ntmps18
        go_wp2_with (first
          | (go_at_call 22; with_reducible refine cC.mono ?_; rintro e w1 ⟨rfl, hb1⟩; have b1 := next bX hb1; have hX1 := hX.kept hb1; obtain ⟨x0, x1, x2, x3⟩ := hX1.cells)
          | (go_at_call 27; with_reducible refine (cH _).mono ?_; rintro e w2 ⟨rfl, hb2⟩; have b2 := next b1 hb2)
          | (go_at_call 23; with_reducible refine (cX _ b2).mono ?_; rintro e w3 ⟨rfl, rfl⟩)
          | (go_at_call 23; with_reducible refine (cE _ b2).mono ?_; rintro e w3 ⟨rfl, rfl⟩))
        go_ret2
        exact ⟨none, 0, 0, rfl, owR_nil _ _, b2⟩
    · obtain ⟨e1, e2, _⟩ := st_arg hr hx2 hh
      rw [e1, e2]
      rw [hc] at cC
      have cH := refHRight_any I G
      rw [rightHB_f hh] at cH
      clear e1 e2 h hr hx2 hh hc
      go_enter Try.func18, Try.ntmps18
      go_wp2_with (first
        | (go_at_call 22; with_reducible refine cC.mono ?_; rintro e w1 ⟨rfl, hb1⟩; have b1 := next bX hb1; have hX1 := hX.kept hb1; obtain ⟨x0, x1, x2, x3⟩ := hX1.cells)
        | (go_at_call 27; with_reducible refine (cH _).mono ?_; rintro e w2 ⟨rfl, hb2⟩; have b2 := next b1 hb2))
      go_ret2
      exact ⟨none, 0, 0, rfl, owR_nil _ _, b2⟩
  · obtain ⟨e1, e2, _⟩ := st_ck (I := I) (G := G) hc
    rw [e1, e2]
    generalize ckE l x = q at *
    have hq : (q != 0) = true := by simpa using hc
    clear e1 e2 h
    go_enter Try.func18, Try.ntmps18
    go_wp2_with (first
      | (go_at_call 22; with_reducible refine cC.mono ?_; rintro e w1 ⟨rfl, hb1⟩; have b1 := next bX hb1))
    go_ret2
    exact ⟨none, 0, 0, rfl, owR_nil _ _, b1⟩
set_option maxHeartbeats 2000000 in
/-- joistref09.Drop. -/
theorem rdrop_rs (ao : Option Addr) (n cap : Nat) (l : List Rt) (x : ByteArray) (w : World) (h : Rs w ao n cap l) (hn : n ≤ 9223372036854775806) (hx : x.size ≤ 9223372036854775807) :
    Calls Try.prog 19 #[.slice ao n cap, .string x] w fun e w' => ∃ bo m c, e = .returned (.tuple #[.slice bo m c, .int .i64 (hvE l x)]) ∧ OwR w.heap.size w' bo m c (drL l x) ∧ Below w.heap.size w w' := by
  have hl := h.len
  have cC := asks_rs ao n cap l x w h hn hx
  have cA : ∀ w2, Below w.heap.size w w2 → Calls Try.prog 23 #[.slice ao n cap, .string x] w2 fun e w' => e = .returned (.int .i64 (plI l x)) ∧ w2 = w' := fun w2 hb2 => at_rs _ n cap l x w2 (h.below hb2) (by omega)
  by_cases hc : ckE l x = 0
  · obtain ⟨hr, hx2⟩ := ck_zero hc
    have hlen := hr.len
    rw [hc] at cC
    cases hp : plO l x with
    | some k =>
      have hv : HvOk l x := ⟨hr, hx2, (pl_t hp).2⟩
      rw [(hv_t hv).1, dr_t hv, (pl_t hp).1]
      rw [plI_t hp] at cA
      have hkl := (plO_spec hp).1
      obtain ⟨b, off, rfl, hbl, _⟩ := h.here (by omega)
      have hkn : k < n := by omega
      have hki : (k : Int) < (n : Int) := by omega
      have hk0 : ¬ ((k : Int) < 0) := by omega
      have HT := hid h
      have hb32 : (0 + n) * 32 ≤ 140737488355328 := by omega
      obtain ⟨m, hm⟩ : ∃ m, l.set k Rt.z = m := ⟨_, rfl⟩
      have Hset : Hid (∀ (g c : Nat) (w4 : World), OwR w.heap.size w4 (some ⟨g, 0, none⟩) n c l → OwR w.heap.size (((w4.setCell ⟨g, k * 3, none⟩ (.string ⟨#[]⟩)).setCell ⟨g, k * 3 + 1, none⟩ (.int .i64 0)).setCell ⟨g, k * 3 + 2, none⟩ (.int .i64 0)) (some ⟨g, 0, none⟩) n c m) := fun g c w4 ho => by
        have := ho.set (s := Rt.z) hkn rgr_z
        rwa [hm] at this
      rw [hm]
      clear h hm hc hr hx2 hp hv hkl
      go_enter Try.func19, Try.ntmps19
      go_wp2_with (first
        | (go_at_call 22; with_reducible refine cC.mono ?_; rintro e w2 ⟨rfl, b2⟩)
        | (go_at_call 23; with_reducible refine (cA _ b2).mono ?_; rintro e w3 ⟨rfl, rfl⟩)
        | (at_builtin; refine append_rs rfl (.tmp 20) (.tmp 21) rfl w.heap.size _ 0 [] rfl (own_emptyR w.heap.size w2 b2.size) (by intro x hx; cases hx) (some ⟨b, off, none⟩) n cap l rfl (HT.out.below (nextE b2 _)) hb32 (Nat.le_trans b2.size (by simp)) ?_))
      intro bo c' w4 ho4 hg4
      have b4 : Below w.heap.size w w4 := (nextE b2 (.cells #[] 37)).grown hg4 (Nat.le_trans b2.size (by simp)) (by intro j hj; cases hj; exact b2.size)
      obtain ⟨g4, rfl, _, _⟩ := ho4.shape (by omega)
      have s4 := ho4.rs.at (Below.refl _ _) hkn
      rw [Nat.zero_add] at s4
      obtain ⟨q0, q1, q2⟩ := s4
      have f0 := ho4.free (k * 3)
      have f1 := ho4.free (k * 3 + 1)
      have f2 := ho4.free (k * 3 + 2)
      have hgw : w.heap.size ≤ g4 := (ho4.row.lt g4 rfl).1
      have HO := hid (Hset.out g4 c' w4 ho4)
      clear ho4 hg4 Hset HT
      go_wp2
      go_ret2
      exact ⟨some ⟨g4, 0, none⟩, n, c', rfl, HO.out, ((b4.setCell hgw _).setCell hgw _).setCell hgw _⟩
    | none =>
      obtain ⟨e1, _, hv⟩ := hv_name hr hx2 (pl_f hp).2
      rw [e1, dr_f hv]
      rw [plI_f hp] at cA
      clear h hc hr hx2 hp hv e1
      go_enter Try.func19, Try.ntmps19
      go_wp2_with (first
        | (go_at_call 22; with_reducible refine cC.mono ?_; rintro e w2 ⟨rfl, b2⟩)
        | (go_at_call 23; with_reducible refine (cA _ b2).mono ?_; rintro e w3 ⟨rfl, rfl⟩))
      go_ret2
      exact ⟨none, 0, 0, rfl, owR_nil _ _, b2⟩
  · obtain ⟨e1, _, hv⟩ := hv_ck hc
    rw [e1, dr_f hv]
    generalize ckE l x = q at *
    have hq : (q != 0) = true := by simpa using hc
    clear h hv e1
    go_enter Try.func19, Try.ntmps19
    go_wp2_with (first
      | (go_at_call 22; with_reducible refine cC.mono ?_; rintro e w2 ⟨rfl, b2⟩))
    go_ret2
    exact ⟨none, 0, 0, rfl, owR_nil _ _, b2⟩
end Go.Proofs.Ytmefepjjlhphnaa
