/- joistref13.cell, span, taken by their contracts. -/
import Derived.Test.YtlghhhhgfnnjgaaDoorPlcM
import Derived.Test.YtlghhhhgfnnjgaaDoorObjR
import Derived.Test.YtlghhhhgfnnjgaaDoorGapA
import Derived.Test.YtlghhhhgfnnjgaaDoorClsB
import Derived.Deep.RegionHeld3
namespace Go.Proofs.YtlghhhhgfnnjgaaDoor
set_option maxRecDepth 100000
open Go.RowKit
set_option linter.unusedVariables false
set_option linter.unusedSimpArgs false
set_option maxRecDepth 100000

theorem results_four {fn : Func} {t u v x : Tmp} (h : fn.results = #[.tmp t, .tmp u, .tmp v, .tmp x]) (tmps : Array Value) (P : Program) (w : World) :
    (results fn tmps).run P w = .ok (.tuple #[tmps.getD t undef, tmps.getD u undef, tmps.getD v undef, tmps.getD x undef]) w := by
  simp [results, h]

/-- The four answers of 'cell'. -/
def SmA (o : Spn) : Prop := (1 ≤ o.sz ∧ o.sz ≤ 120) ∧ 0 ≤ o.pos
instance (o : Spn) : Decidable (SmA o) := by unfold SmA; exact inferInstance
def cpN (o : Spn) : Int := if SmA o then pgA o else 0
def ccN (o : Spn) : Int := if SmA o then (clN o.sz : Int) else 0
def ckN (o : Spn) : Int := if SmA o then whN (clN o.sz) (o.pos % 32) else 0
def smB (o : Spn) : Bool := decide (SmC o)
theorem sm_t {o : Spn} (h : SmC o) : cpN o = pgA o ∧ ccN o = clN o.sz ∧ smB o = true := ⟨if_pos ⟨h.1, h.2.1⟩, if_pos ⟨h.1, h.2.1⟩, decide_eq_true h⟩
theorem sm_f {o : Spn} (h : ¬ SmC o) : smB o = false := decide_eq_false h
theorem cell_no {o : Spn} (h : ¬ SmA o) : cpN o = 0 ∧ ccN o = 0 ∧ ckN o = 0 ∧ smB o = false := ⟨if_neg h, if_neg h, if_neg h, decide_eq_false fun c => h ⟨c.1, c.2.1⟩⟩
theorem cell_yes {o : Spn} (h : SmA o) : cpN o = o.pos / 32 ∧ ccN o = clN o.sz ∧ ckN o = whN (clN o.sz) (o.pos % 32) ∧ smB o = whB (clN o.sz) (o.pos % 32) := by
  refine ⟨if_pos h, if_pos h, if_pos h, ?_⟩
  unfold smB whB
  exact decide_eq_decide.2 ⟨fun c => c.2.2, fun c => ⟨h.1, h.2, c⟩⟩

theorem rcellO_any (o : Spn) (w : World) (hr : RgP o) :
    Calls Tryd.prog 30 #[.agg #[.int .i64 o.pos, .int .i64 o.sz]] w fun e w' => e = .returned (.tuple #[.int .i64 (cpN o), .int .i64 (ccN o), .int .i64 (ckN o), .bool (smB o)]) ∧ Below w.heap.size w w' := by
  have X1 := bxJ_new w o
  have hb1 : Below w.heap.size w (w.alloc o.ob) := (Below.refl _ w).alloc (Nat.le_refl _) _
  have cO := rof_any o.sz (w.alloc o.ob)
  obtain ⟨x0, x1, _, _⟩ := X1.cells
  by_cases hs : 1 ≤ o.sz ∧ o.sz ≤ 120
  · rw [cl_b hs] at cO
    by_cases hp : 0 ≤ o.pos
    · obtain ⟨e1, e2, e3, e4⟩ := cell_yes (o := o) ⟨hs, hp⟩
      rw [e1, e2, e3, e4]
      have cW := fun w' => rwhich_any (clN o.sz) (o.pos % 32) w'
      have y1 : Int.tmod o.pos 32 = o.pos % 32 := Int.tmod_eq_emod_of_nonneg hp
      have y2 : Int.tdiv o.pos 32 = o.pos / 32 := Int.tdiv_eq_ediv_of_nonneg hp
      have y3 : IntKind.i64.wrap (o.pos / 32) = o.pos / 32 := by
        obtain ⟨⟨g0, g1⟩, _⟩ := hr
        exact IntWalk.i64_in _ ⟨by omega, by omega⟩
      clear e1 e2 e3 e4
      generalize whN (clN o.sz) (o.pos % 32) = k at *
      generalize whB (clN o.sz) (o.pos % 32) = t at *
      generalize (clN o.sz : Int) = c at *
      have hp' : ¬ o.pos < 0 := by omega
      obtain ⟨p, z⟩ := o
      simp only [Spn.ob] at *
      clear hs
      go_enter Tryd.func30, Tryd.ntmps30
      go_wp2_with (first
        | (go_at_call 32; with_reducible refine cO.mono ?_; rintro e w2 ⟨rfl, hb2⟩; have X2 := X1.kept hb2; obtain ⟨z0, z1, _, _⟩ := X2.cells)
        | (go_at_call 41; with_reducible refine (cW _).mono ?_; rintro e w3 ⟨rfl, hb3⟩; have X3 := X2.kept hb3; obtain ⟨u0, u1, _, _⟩ := X3.cells))
      try simp only [Exit.inBlock, Exit.then]
      refine bodyPost_ret (results_four rfl _ _ _) rfl ?_
      exact ⟨rfl, next (next hb1 hb2) hb3⟩
    · obtain ⟨e1, e2, e3, e4⟩ := cell_no (o := o) (fun h => hp h.2)
      rw [e1, e2, e3, e4]
      clear e1 e2 e3 e4 hs
      generalize (clN o.sz : Int) = c at *
      obtain ⟨p, z⟩ := o
      simp only [Spn.ob] at *
      go_enter Tryd.func30, Tryd.ntmps30
      go_wp2_with (go_at_call 32; with_reducible refine cO.mono ?_; rintro e w2 ⟨rfl, hb2⟩; have X2 := X1.kept hb2; obtain ⟨z0, z1, _, _⟩ := X2.cells)
      try simp only [Exit.inBlock, Exit.then]
      refine bodyPost_ret (results_four rfl _ _ _) rfl ?_
      exact ⟨rfl, next hb1 hb2⟩
  · obtain ⟨e1, e2, e3, e4⟩ := cell_no (o := o) (fun h => hs h.1)
    rw [e1, e2, e3, e4]
    rw [(cl_f hs).1, (cl_f hs).2] at cO
    clear e1 e2 e3 e4 hs
    obtain ⟨p, z⟩ := o
    simp only [Spn.ob] at *
    go_enter Tryd.func30, Tryd.ntmps30
    go_wp2_with (go_at_call 32; with_reducible refine cO.mono ?_; rintro e w2 ⟨rfl, hb2⟩; have X2 := X1.kept hb2; obtain ⟨z0, z1, _, _⟩ := X2.cells)
    try simp only [Exit.inBlock, Exit.then]
    refine bodyPost_ret (results_four rfl _ _ _) rfl ?_
    exact ⟨rfl, next hb1 hb2⟩

/-- The answers of 'span'. -/
def LgA (o : Spn) : Prop := (120 < o.sz ∧ o.sz ≤ 2048) ∧ 0 ≤ o.pos ∧ o.pos % 32 = 0
instance (o : Spn) : Decidable (LgA o) := by unfold LgA; exact inferInstance
def spO (o : Spn) : Spn := if SmC o then ⟨o.pos / 32, 1⟩ else if LgA o then ⟨o.pos / 32, pgN o.sz⟩ else ⟨0, 0⟩
def inB (P : Int) (o : Spn) : Bool := decide (InC P o)
theorem inB_t {P : Int} {o : Spn} (h : InC P o) : inB P o = true := decide_eq_true h
theorem inB_f {P : Int} {o : Spn} (h : ¬ InC P o) : inB P o = false := decide_eq_false h
theorem spO_in {P : Int} {o : Spn} (h : InC P o) : spO o = ⟨pgA o, pgK o⟩ := by
  by_cases hs : o.sz ≤ 120
  · unfold spO
    rw [if_pos (h.small hs).1, pgK_small hs]
    rfl
  · obtain ⟨l1, l2, l3, l4⟩ := h.large hs
    unfold spO
    rw [if_neg (fun c : SmC o => hs c.1.2), if_pos ⟨l1, l2, l3⟩, pgK_large hs]
    rfl
theorem sp_small {P : Int} {o : Spn} (h : SmC o) : spO o = ⟨o.pos / 32, 1⟩ ∧ inB P o = decide (o.pos / 32 < P) := by
  refine ⟨if_pos h, ?_⟩
  unfold inB
  refine decide_eq_decide.2 ⟨fun c => ?_, fun c => Or.inl ⟨h, c⟩⟩
  exact (c.small h.1.2).2
theorem sp_large {P : Int} {o : Spn} (h : LgA o) : spO o = ⟨o.pos / 32, pgN o.sz⟩ ∧ inB P o = decide (o.pos / 32 + pgN o.sz ≤ P) := by
  have hn : ¬ SmC o := fun c => by have := c.1.2; have := h.1.1; omega
  refine ⟨by unfold spO; rw [if_neg hn, if_pos h], ?_⟩
  unfold inB
  refine decide_eq_decide.2 ⟨fun c => ?_, fun c => Or.inr ⟨h.1, h.2.1, h.2.2, c⟩⟩
  rcases c with ⟨c, _⟩ | c
  · exact (hn c).elim
  · exact c.2.2.2
theorem sp_not {P : Int} {o : Spn} (h : ¬ SmC o) (h2 : ¬ LgA o) : spO o = ⟨0, 0⟩ ∧ inB P o = false := by
  refine ⟨by unfold spO; rw [if_neg h, if_neg h2], inB_f fun c => ?_⟩
  rcases c with ⟨c, _⟩ | c
  · exact h c
  · exact h2 ⟨c.1, c.2.1, c.2.2.1⟩

theorem late_new (w1 : World) (b : Nat) (q K : Int) :
    (((w1.setCell ⟨b, 0, none⟩ (.int .i64 q)).setCell ⟨b, 1, none⟩ (.int .i64 K)).alloc (.cells #[.int .i64 q, .int .i64 K] 58)).drew.cell? ⟨w1.heap.size, 0, none⟩ = some (.int .i64 q) ∧
    (((w1.setCell ⟨b, 0, none⟩ (.int .i64 q)).setCell ⟨b, 1, none⟩ (.int .i64 K)).alloc (.cells #[.int .i64 q, .int .i64 K] 58)).drew.cell? ⟨w1.heap.size, 1, none⟩ = some (.int .i64 K) := by
  have h := (bxP_new' ((w1.setCell ⟨b, 0, none⟩ (.int .i64 q)).setCell ⟨b, 1, none⟩ (.int .i64 K)) q K).kept (Below.refl _ _).drew
  rw [show ((w1.setCell ⟨b, 0, none⟩ (.int .i64 q)).setCell ⟨b, 1, none⟩ (.int .i64 K)).heap.size = w1.heap.size by simp [World.setCell]] at h
  exact ⟨h.cells.1, h.cells.2.1⟩
theorem late_box {w1 : World} {b : Nat} {s : Spn} (h : BxP w1 b s) (q K : Int) :
    BxP (((w1.setCell ⟨b, 0, none⟩ (.int .i64 q)).setCell ⟨b, 1, none⟩ (.int .i64 K)).alloc (.cells #[.int .i64 q, .int .i64 K] 58)).drew b ⟨q, K⟩ :=
  (h.set ⟨q, K⟩).kept (((Below.refl _ _).alloc (Nat.le_refl _) _).drew)
theorem late_below {w w1 : World} {b : Nat} (h : Below w.heap.size w w1) (hb : w.heap.size ≤ b) (u v : Value) (o : Obj) :
    Below w.heap.size w (((w1.setCell ⟨b, 0, none⟩ u).setCell ⟨b, 1, none⟩ v).alloc o).drew :=
  (((h.setCell hb _).setCell hb _).alloc (by simpa [World.setCell] using h.size) _).drew

set_option maxHeartbeats 1000000 in
theorem rspan_any (P : Int) (o : Spn) (w : World) (hr : RgP o) (hP : P ≤ 9223372036854775807) :
    Calls Tryd.prog 29 #[.int .i64 P, .agg #[.int .i64 o.pos, .int .i64 o.sz]] w fun e w' => e = .returned (.tuple #[.agg #[.int .i64 (spO o).pos, .int .i64 (spO o).sz], .bool (inB P o)]) ∧ Below w.heap.size w w' := by
  have hbA : Below w.heap.size w (w.alloc o.ob) := (Below.refl _ w).alloc (Nat.le_refl _) _
  have hbB : Below (w.alloc o.ob).heap.size (w.alloc o.ob) ((w.alloc o.ob).alloc (.cells #[.int .i64 0, .int .i64 0] 58)) := (Below.refl _ _).alloc (Nat.le_refl _) _
  have XA := (bxJ_new w o).kept hbB
  have XB := bxP_new' (w.alloc o.ob) 0 0
  have hb0 := next hbA hbB
  rw [show (w.alloc o.ob).heap.size = w.heap.size + 1 by simp] at XB
  have cC := rcellO_any o ((w.alloc o.ob).alloc (.cells #[.int .i64 0, .int .i64 0] 58)) hr
  obtain ⟨a0, a1, _, _⟩ := XA.cells
  clear hbA hbB
  by_cases hs : SmC o
  · obtain ⟨e1, e2⟩ := sp_small (P := P) hs
    rw [e1, e2]
    obtain ⟨f1, f2, f3⟩ := sm_t hs
    rw [f1, f2, f3] at cC
    rw [show pgA o = o.pos / 32 from rfl] at cC
    clear e1 e2 f1 f2 f3 hs hr
    generalize ckN o = kk at *
    generalize (clN o.sz : Int) = cc at *
    generalize o.pos / 32 = pg at *
    simp only [Spn.ob] at *
    go_enter Tryd.func29, Tryd.ntmps29
    go_wp2_with (go_at_call 30; with_reducible refine cC.mono ?_; rintro e w1 ⟨rfl, hb1⟩; have XB1 := XB.kept hb1; obtain ⟨r0, r1, r2, r3⟩ := XB1.cells; have hb2 := next hb0 hb1)
    obtain ⟨t0, t1, _, _⟩ := (XB1.set ⟨pg, 1⟩).cells
    simp only at t0 t1
    refine bodyPost_ret (v := .tuple #[.agg #[.int .i64 pg, .int .i64 1], .bool (decide (pg < P))]) (by simp [results, Tryd.results29, go_sem, t0, t1]) rfl ⟨rfl, ?_⟩
    exact (hb2.setCell (by simp) _).setCell (by simp) _
  · rw [sm_f hs] at cC
    generalize cpN o = pp at *
    generalize ccN o = cc at *
    generalize ckN o = kk at *
    have cP := fun w' => rpages_any o.sz w'
    by_cases hl : LgA o
    · obtain ⟨e1, e2⟩ := sp_large (P := P) hl
      rw [e1, e2]
      obtain ⟨l1, l2, l3⟩ := hl
      obtain ⟨g1, g2⟩ := pgN_in l1
      rw [(pg_t l1).2] at cP
      have y1 : Int.tmod o.pos 32 = o.pos % 32 := Int.tmod_eq_emod_of_nonneg l2
      have y2 : Int.tdiv o.pos 32 = o.pos / 32 := Int.tdiv_eq_ediv_of_nonneg l2
      have y3 : IntKind.i64.wrap (o.pos / 32) = o.pos / 32 := by
        obtain ⟨⟨g0, g1⟩, _⟩ := hr
        exact IntWalk.i64_in _ ⟨by omega, by omega⟩
      have y4 : (o.pos % 32 != 0) = false := by simpa using l3
      have hp0 : ¬ o.pos < 0 := by omega
      have q0 : 0 ≤ o.pos / 32 := by omega
      clear e1 e2 hs hr l1 l3
      generalize pgN o.sz = K at *
      obtain ⟨p, z⟩ := o
      simp only [Spn.ob] at *
      obtain ⟨q, hq⟩ : ∃ q, p / 32 = q := ⟨_, rfl⟩
      rw [hq] at y2 y3 q0 ⊢
      clear hq
      by_cases h1 : q ≤ P
      · have y5 : IntKind.i64.wrap (P - q) = P - q := IntWalk.i64_in _ ⟨by omega, by omega⟩
        by_cases h2 : K ≤ P - q
        · rw [decide_eq_true (show q + K ≤ P by omega)]
          go_enter Tryd.func29, Tryd.ntmps29
          go_wp2_with (first
            | (go_at_call 30; with_reducible refine cC.mono ?_; rintro e w1 ⟨rfl, hb1⟩; have XB1 := XB.kept hb1; obtain ⟨r0, r1, r2, r3⟩ := XB1.cells; have hb2 := next hb0 hb1; have XA1 := XA.kept hb1; obtain ⟨b0, b1, _, _⟩ := XA1.cells)
            | (go_at_call 33; with_reducible refine (cP _).mono ?_; rintro e w' ⟨rfl, rfl⟩))
          have hlt3 : w.heap.size + 1 < w1.heap.size := World.block_lt_of_cell? w1 _ r0
          have hne : w.heap.size + 1 ≠ w1.heap.size := by omega
          obtain ⟨v0, v1⟩ := late_new w1 (w.heap.size + 1) q K
          go_region_held3 (fun w' => w'.cell? ⟨w1.heap.size, 0, none⟩ = some (.int .i64 q) ∧ w'.cell? ⟨w1.heap.size, 1, none⟩ = some (.int .i64 K)) (go_keep) (fail)
          go_wp2
          obtain ⟨t0, t1, _, _⟩ := (late_box XB1 q K).cells
          simp only at t0 t1
          refine bodyPost_ret (v := .tuple #[.agg #[.int .i64 q, .int .i64 K], .bool true]) (by simp [results, Tryd.results29, go_sem, t0, t1]) rfl ⟨rfl, ?_⟩
          exact late_below hb2 (by omega) _ _ _
        · rw [decide_eq_false (show ¬ q + K ≤ P by omega)]
          have h2' : P - q < K := by omega
          have hd2 : decide (K ≤ P - q) = false := decide_eq_false h2
          go_enter Tryd.func29, Tryd.ntmps29
          go_wp2_with (first
            | (go_at_call 30; with_reducible refine cC.mono ?_; rintro e w1 ⟨rfl, hb1⟩; have XB1 := XB.kept hb1; obtain ⟨r0, r1, r2, r3⟩ := XB1.cells; have hb2 := next hb0 hb1; have XA1 := XA.kept hb1; obtain ⟨b0, b1, _, _⟩ := XA1.cells)
            | (go_at_call 33; with_reducible refine (cP _).mono ?_; rintro e w' ⟨rfl, rfl⟩))
          have hlt3 : w.heap.size + 1 < w1.heap.size := World.block_lt_of_cell? w1 _ r0
          have hne : w.heap.size + 1 ≠ w1.heap.size := by omega
          obtain ⟨v0, v1⟩ := late_new w1 (w.heap.size + 1) q K
          go_region_held3 (fun w' => w'.cell? ⟨w1.heap.size, 0, none⟩ = some (.int .i64 q) ∧ w'.cell? ⟨w1.heap.size, 1, none⟩ = some (.int .i64 K)) (go_keep) (fail)
          go_wp2
          obtain ⟨t0, t1, _, _⟩ := (late_box XB1 q K).cells
          simp only at t0 t1
          refine bodyPost_ret (v := .tuple #[.agg #[.int .i64 q, .int .i64 K], .bool false]) (by simp [results, Tryd.results29, go_sem, t0, t1]; try omega) rfl ⟨rfl, ?_⟩
          exact late_below hb2 (by omega) _ _ _
      · rw [decide_eq_false (show ¬ q + K ≤ P by omega)]
        go_enter Tryd.func29, Tryd.ntmps29
        go_wp2_with (first
          | (go_at_call 30; with_reducible refine cC.mono ?_; rintro e w1 ⟨rfl, hb1⟩; have XB1 := XB.kept hb1; obtain ⟨r0, r1, r2, r3⟩ := XB1.cells; have hb2 := next hb0 hb1; have XA1 := XA.kept hb1; obtain ⟨b0, b1, _, _⟩ := XA1.cells)
          | (go_at_call 33; with_reducible refine (cP _).mono ?_; rintro e w' ⟨rfl, rfl⟩))
        have hlt3 : w.heap.size + 1 < w1.heap.size := World.block_lt_of_cell? w1 _ r0
        have hne : w.heap.size + 1 ≠ w1.heap.size := by omega
        obtain ⟨v0, v1⟩ := late_new w1 (w.heap.size + 1) q K
        have hd0 : ¬ q ≤ P := by omega
        have hd1 : decide (q ≤ P) = false := decide_eq_false hd0
        go_region
        go_wp2
        obtain ⟨t0, t1, _, _⟩ := (late_box XB1 q K).cells
        simp only at t0 t1
        refine bodyPost_ret (v := .tuple #[.agg #[.int .i64 q, .int .i64 K], .bool false]) (by simp [results, Tryd.results29, go_sem, t0, t1]; try omega) rfl ⟨rfl, ?_⟩
        exact late_below hb2 (by omega) _ _ _
    · obtain ⟨e1, e2⟩ := sp_not (P := P) hs hl
      rw [e1, e2]
      clear e1 e2 hs hr
      have hd : (pgE o.sz = 1) ∨ (pgE o.sz = 0 ∧ o.pos < 0) ∨ (pgE o.sz = 0 ∧ ¬ o.pos < 0 ∧ Int.tmod o.pos 32 = o.pos % 32 ∧ (o.pos % 32 != 0) = true) := by
        unfold LgA at hl
        by_cases h1 : 120 < o.sz ∧ o.sz ≤ 2048
        · by_cases h2 : o.pos < 0
          · exact Or.inr (Or.inl ⟨(pg_t h1).2, h2⟩)
          · exact Or.inr (Or.inr ⟨(pg_t h1).2, h2, Int.tmod_eq_emod_of_nonneg (by omega), by simp; omega⟩)
        · exact Or.inl (pg_f h1).2
      clear hl
      generalize pgN o.sz = K at *
      generalize pgE o.sz = E at *
      obtain ⟨p, z⟩ := o
      simp only [Spn.ob] at *
      rcases hd with rfl | ⟨rfl, h1⟩ | ⟨rfl, h1, h2, h3⟩
      · go_enter Tryd.func29, Tryd.ntmps29
        go_wp2_with (first
          | (go_at_call 30; with_reducible refine cC.mono ?_; rintro e w1 ⟨rfl, hb1⟩; have XB1 := XB.kept hb1; obtain ⟨r0, r1, r2, r3⟩ := XB1.cells; have hb2 := next hb0 hb1; have XA1 := XA.kept hb1; obtain ⟨b0, b1, _, _⟩ := XA1.cells)
          | (go_at_call 33; with_reducible refine (cP _).mono ?_; rintro e w' ⟨rfl, rfl⟩))
        obtain ⟨t0, t1, _, _⟩ := (XB1.set ⟨0, 0⟩).cells
        simp only at t0 t1
        refine bodyPost_ret (v := .tuple #[.agg #[.int .i64 0, .int .i64 0], .bool false]) (by simp [results, Tryd.results29, go_sem, t0, t1]) rfl ⟨rfl, ?_⟩
        exact (hb2.setCell (by simp) _).setCell (by simp) _
      · go_enter Tryd.func29, Tryd.ntmps29
        go_wp2_with (first
          | (go_at_call 30; with_reducible refine cC.mono ?_; rintro e w1 ⟨rfl, hb1⟩; have XB1 := XB.kept hb1; obtain ⟨r0, r1, r2, r3⟩ := XB1.cells; have hb2 := next hb0 hb1; have XA1 := XA.kept hb1; obtain ⟨b0, b1, _, _⟩ := XA1.cells)
          | (go_at_call 33; with_reducible refine (cP _).mono ?_; rintro e w' ⟨rfl, rfl⟩))
        obtain ⟨t0, t1, _, _⟩ := (XB1.set ⟨0, 0⟩).cells
        simp only at t0 t1
        refine bodyPost_ret (v := .tuple #[.agg #[.int .i64 0, .int .i64 0], .bool false]) (by simp [results, Tryd.results29, go_sem, t0, t1]) rfl ⟨rfl, ?_⟩
        exact (hb2.setCell (by simp) _).setCell (by simp) _
      · go_enter Tryd.func29, Tryd.ntmps29
        go_wp2_with (first
          | (go_at_call 30; with_reducible refine cC.mono ?_; rintro e w1 ⟨rfl, hb1⟩; have XB1 := XB.kept hb1; obtain ⟨r0, r1, r2, r3⟩ := XB1.cells; have hb2 := next hb0 hb1; have XA1 := XA.kept hb1; obtain ⟨b0, b1, _, _⟩ := XA1.cells)
          | (go_at_call 33; with_reducible refine (cP _).mono ?_; rintro e w' ⟨rfl, rfl⟩))
        obtain ⟨t0, t1, _, _⟩ := (XB1.set ⟨0, 0⟩).cells
        simp only at t0 t1
        refine bodyPost_ret (v := .tuple #[.agg #[.int .i64 0, .int .i64 0], .bool false]) (by simp [results, Tryd.results29, go_sem, t0, t1]) rfl ⟨rfl, ?_⟩
        exact (hb2.setCell (by simp) _).setCell (by simp) _
end Go.Proofs.YtlghhhhgfnnjgaaDoor
