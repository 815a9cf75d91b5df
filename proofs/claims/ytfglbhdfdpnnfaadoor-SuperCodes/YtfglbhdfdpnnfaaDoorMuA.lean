/- SucA · SucB · SucD: these texts, one behind another. -/
import Derived.Test.YtfglbhdfdpnnfaaDoorRefSur
import Derived.Test.YtfglbhdfdpnnfaaDoorShpCode
import Derived.Test.YtfglbhdfdpnnfaaDoorUnseal
import Derived.Test.YtfglbhdfdpnnfaaDoorAll
import Derived.Test.YtfglbhdfdpnnfaaDoorOf
import Derived.Test.YtfglbhdfdpnnfaaDoorSeal
/- super's isMode, baseMayBe, Right, Write and numbers by their contracts; what the seven numbers of a line tell, in plain words. -/
namespace Go.Proofs.YtfglbhdfdpnnfaaDoor
set_option maxRecDepth 100000
open Go.RowKit
set_option linter.unusedVariables false
set_option linter.unusedSimpArgs false
set_option maxRecDepth 100000

/-- A mode's number. -/
def imB (m : Int) : Bool := decide (1 ≤ m ∧ m ≤ 4)
theorem isMode_any (m : Int) (w : World) :
    Calls Tryd.prog 26 #[.int .i64 m] w fun e w' => e = .returned (.bool (imB m)) ∧ w = w' := by
  by_cases h1 : 1 ≤ m
  · by_cases h2 : m ≤ 4
    · rw [show imB m = true from decide_eq_true ⟨h1, h2⟩]
      go_enter Tryd.func26, Tryd.ntmps26
      go_wp2
      go_ret
      exact ⟨rfl, rfl⟩
    · rw [show imB m = false from decide_eq_false (fun k => h2 k.2)]
      go_enter Tryd.func26, Tryd.ntmps26
      go_wp2
      go_ret
      exact ⟨rfl, rfl⟩
  · rw [show imB m = false from decide_eq_false (fun k => h1 k.1)]
    go_enter Tryd.func26, Tryd.ntmps26
    go_wp2
    go_ret
    exact ⟨rfl, rfl⟩
/-- A mode goes with a base. -/
def BmP (m b p : Int) : Prop := (m = 1 ∧ b = 0) ∨ (m = 2 ∧ b = p) ∨ ((m = 3 ∨ m = 4) ∧ 0 ≤ b ∧ b ≤ p)
instance (m b p : Int) : Decidable (BmP m b p) := by unfold BmP; exact inferInstance
def bmB (m b p : Int) : Bool := decide (BmP m b p)
theorem hp_bm (s : Shp) (m b : Int) : hpB s m b = (shB s && bmB m b s.pg) := by
  unfold hpB bmB shB
  rw [Bool.eq_iff_iff, Bool.and_eq_true, decide_eq_true_eq, decide_eq_true_eq, decide_eq_true_eq]
  constructor
  · rintro ⟨h, h1, h2, h3⟩
    refine ⟨h, ?_⟩
    unfold BmP
    omega
  · rintro ⟨h, h1⟩
    have h2 := h.1
    unfold BmP at h1
    refine ⟨h, ?_⟩
    unfold MdP
    omega
theorem base_any (m b p : Int) (w : World) :
    Calls Tryd.prog 28 #[.int .i64 m, .int .i64 b, .int .i64 p] w fun e w' => e = .returned (.bool (bmB m b p)) ∧ w = w' := by
  rcases nm_cases m with rfl | rfl | rfl | rfl | ⟨h1, h2, h3, h4⟩
  · by_cases h : b = 0
    · rw [show bmB 1 b p = true from decide_eq_true (by unfold BmP; omega)]
      go_enter Tryd.func28, Tryd.ntmps28
      go_wp2
      go_ret
      exact ⟨rfl, rfl⟩
    · rw [show bmB 1 b p = false from decide_eq_false (by unfold BmP; omega)]
      go_enter Tryd.func28, Tryd.ntmps28
      go_wp2
      go_ret
      exact ⟨ret_bool (beq_false_of_ne h), rfl⟩
  · by_cases h : b = p
    · rw [show bmB 2 b p = true from decide_eq_true (by unfold BmP; omega)]
      go_enter Tryd.func28, Tryd.ntmps28
      go_wp2
      go_ret
      exact ⟨rfl, rfl⟩
    · rw [show bmB 2 b p = false from decide_eq_false (by unfold BmP; omega)]
      go_enter Tryd.func28, Tryd.ntmps28
      go_wp2
      go_ret
      exact ⟨ret_bool (beq_false_of_ne h), rfl⟩
  · by_cases h : 0 ≤ b
    · by_cases g : b ≤ p
      · rw [show bmB 3 b p = true from decide_eq_true (by unfold BmP; omega)]
        go_enter Tryd.func28, Tryd.ntmps28
        go_wp2
        go_ret
        exact ⟨rfl, rfl⟩
      · rw [show bmB 3 b p = false from decide_eq_false (by unfold BmP; omega)]
        go_enter Tryd.func28, Tryd.ntmps28
        go_wp2
        go_ret
        exact ⟨rfl, rfl⟩
    · rw [show bmB 3 b p = false from decide_eq_false (by unfold BmP; omega)]
      go_enter Tryd.func28, Tryd.ntmps28
      go_wp2
      go_ret
      exact ⟨rfl, rfl⟩
  · by_cases h : 0 ≤ b
    · by_cases g : b ≤ p
      · rw [show bmB 4 b p = true from decide_eq_true (by unfold BmP; omega)]
        go_enter Tryd.func28, Tryd.ntmps28
        go_wp2
        go_ret
        exact ⟨rfl, rfl⟩
      · rw [show bmB 4 b p = false from decide_eq_false (by unfold BmP; omega)]
        go_enter Tryd.func28, Tryd.ntmps28
        go_wp2
        go_ret
        exact ⟨rfl, rfl⟩
    · rw [show bmB 4 b p = false from decide_eq_false (by unfold BmP; omega)]
      go_enter Tryd.func28, Tryd.ntmps28
      go_wp2
      go_ret
      exact ⟨rfl, rfl⟩
  · rw [show bmB m b p = false from decide_eq_false (by unfold BmP; omega)]
    go_enter Tryd.func28, Tryd.ntmps28
    go_wp2
    go_ret
    exact ⟨rfl, rfl⟩
theorem suRight_any (s : Shp) (hs : ShG s) (m b : Int) (hm : Rg m) (hb : Rg b) (w : World) :
    Calls Tryd.prog 18 #[.agg #[.int .i64 s.pg, .int .i64 s.sl, .int .i64 s.rt, .int .i64 s.rm], .int .i64 m, .int .i64 b] w fun e w' => e = .returned (.bool (hpB s m b)) ∧ Below w.heap.size w w' := by
  have hb0 : Below w.heap.size w (w.alloc (.cells #[.int .i64 s.pg, .int .i64 s.sl, .int .i64 s.rt, .int .i64 s.rm] 23)) := (Below.refl _ _).alloc (Nat.le_refl _) _
  have hS := bxS4_new w s
  have cR := shRight_any s hs (w.alloc (.cells #[.int .i64 s.pg, .int .i64 s.sl, .int .i64 s.rt, .int .i64 s.rm] 23))
  have cB : ∀ w1, _ := fun w1 => base_any m b s.pg w1
  rw [hp_bm]
  generalize shB s = x at *
  generalize bmB m b s.pg = y at *
  clear hm hb hs
  cases x
  · simp only [Bool.false_and]
    go_enter Tryd.func18, Tryd.ntmps18
    go_wp2_with (first
      | (go_at_call 27; with_reducible refine cR.mono ?_; rintro e w1 ⟨rfl, hb1⟩; obtain ⟨q0, q1, q2, q3⟩ := (hS.kept hb1).cells)
      | (go_at_call 28; with_reducible refine (cB _).mono ?_; rintro e w2 ⟨rfl, rfl⟩))
    go_ret
    exact ⟨rfl, next hb0 hb1⟩
  · simp only [Bool.true_and]
    go_enter Tryd.func18, Tryd.ntmps18
    go_wp2_with (first
      | (go_at_call 27; with_reducible refine cR.mono ?_; rintro e w1 ⟨rfl, hb1⟩; obtain ⟨q0, q1, q2, q3⟩ := (hS.kept hb1).cells)
      | (go_at_call 28; with_reducible refine (cB _).mono ?_; rintro e w2 ⟨rfl, rfl⟩))
    go_ret
    exact ⟨rfl, next hb0 hb1⟩
theorem suWrite_any (s : Shp) (hs : ShG s) (m b : Int) (hm : Rg m) (hb : Rg b) (w : World) :
    Calls Tryd.prog 8 #[.agg #[.int .i64 s.pg, .int .i64 s.sl, .int .i64 s.rt, .int .i64 s.rm], .int .i64 m, .int .i64 b] w fun e w' => ∃ ao n c, e = .returned (.tuple #[.slice ao n c, .int .i64 (spE s m b)]) ∧ Own .u8 5 w.heap.size w' ao n c (sbL s m b) ∧ Below w.heap.size w w' := by
  have hb0 : Below w.heap.size w (w.alloc (.cells #[.int .i64 s.pg, .int .i64 s.sl, .int .i64 s.rt, .int .i64 s.rm] 23)) := (Below.refl _ _).alloc (Nat.le_refl _) _
  have hS := bxS4_new w s
  have cR := suRight_any s hs m b hm hb (w.alloc (.cells #[.int .i64 s.pg, .int .i64 s.sl, .int .i64 s.rt, .int .i64 s.rm] 23))
  clear hs hm hb
  by_cases h : HdP s m b
  · obtain ⟨e1, e2, e3⟩ := sp_t h
    rw [e3] at cR
    rw [e1, e2]
    have hok := h.ok
    have cO : ∀ w1, Calls Tryd.prog 20 #[.slice (some ⟨w1.heap.size, 0, none⟩) 7 7] (w1.alloc (.cells #[.int .i64 54238244327242, .int .i64 m, .int .i64 s.pg, .int .i64 s.sl, .int .i64 s.rt, .int .i64 s.rm, .int .i64 b] 3)) fun e w' => ∃ ao c, e = .returned (.tuple #[.slice ao 56 c, .int .i64 0]) ∧ Own .u8 5 w1.heap.size w' ao 56 c (ofL (spW s m b)) ∧ Below w1.heap.size w1 w' := fun w1 => by
      refine (of_any _ 7 7 (spW s m b) _ (sl_seven w1 _ _ _ _ _ _ _) (by omega)).mono ?_
      rintro e w' ⟨ao, n, c, rfl, ho, hb⟩
      rw [ofR_t hok] at ho
      rw [ofE_t hok]
      obtain rfl : n = 56 := by rw [← ho.len, spW_len]
      have hba : Below w1.heap.size w1 (w1.alloc (.cells #[.int .i64 54238244327242, .int .i64 m, .int .i64 s.pg, .int .i64 s.sl, .int .i64 s.rt, .int .i64 s.rm, .int .i64 b] 3)) := (Below.refl _ _).alloc (Nat.le_refl _) _
      exact ⟨ao, c, rfl, ho.mono (by simp), next hba hb⟩
    have cS : ∀ ao c B w1, Own .u8 5 B w1 ao 56 c (ofL (spW s m b)) → Calls Tryd.prog 21 #[.slice ao 56 c] w1 fun e w' => ∃ bo c', e = .returned (.slice bo 64 c') ∧ Own .u8 5 w1.heap.size w' bo 64 c' (spY s m b) ∧ Below w1.heap.size w1 w' := fun ao c B w1 ho =>
      seal_any ao 56 c _ w1 ho.sl (ofL_bytes _) (by omega)
    clear e1 e2 e3 h hok
    go_enter Tryd.func8, Tryd.ntmps8
    go_wp2_with (first
      | (go_at_call 18; with_reducible refine cR.mono ?_; rintro e w1 ⟨rfl, hb1⟩; obtain ⟨q0, q1, q2, q3⟩ := (hS.kept hb1).cells; have hb1' := next hb0 hb1)
      | (go_at_call 20; with_reducible refine (cO w1).mono ?_; rintro e w2 ⟨ao, c, rfl, ho2, hb2⟩; have hb2' := next hb1' hb2)
      | (go_at_call 21; with_reducible refine (cS _ _ _ _ ho2).mono ?_; rintro e w3 ⟨bo, c3, rfl, ho3, hb3⟩))
    go_ret2
    exact ⟨bo, 64, c3, rfl, ho3.mono hb2'.size, next hb2' hb3⟩
  · obtain ⟨e1, e2, e3⟩ := sp_f h
    rw [e3] at cR
    rw [e1, e2]
    clear e1 e2 e3 h
    go_enter Tryd.func8, Tryd.ntmps8
    go_wp2_with (first
      | (go_at_call 18; with_reducible refine cR.mono ?_; rintro e w1 ⟨rfl, hb1⟩; have hb1' := next hb0 hb1))
    go_ret2
    exact ⟨none, 0, 0, rfl, own_nil _ _ _ _, hb1'⟩
end Go.Proofs.YtfglbhdfdpnnfaaDoor
/- What the seven numbers ahead of a line's sum tell, in plain words; super.numbers by its contract. -/
namespace Go.Proofs.YtfglbhdfdpnnfaaDoor
set_option maxRecDepth 100000
open Go.RowKit
set_option linter.unusedVariables false
set_option linter.unusedSimpArgs false
set_option maxRecDepth 100000

/-- What numbers answers. -/
def nuB (zs : List Int) : Bool := decide (zs.length = 64 ∧ opB zs = true ∧ allB (opR zs) = true)
def nuL (zs : List Int) : List Int := if zs.length = 64 ∧ opB zs = true then allR (opR zs) else []
theorem seven {l : List Int} (h : l.length = 7) : ∃ a b c d e f g, l = [a, b, c, d, e, f, g] := by
  match l, h with
  | [a, b, c, d, e, f, g], _ => exact ⟨a, b, c, d, e, f, g, rfl⟩
theorem op_line {zs : List Int} (hl : zs.length = 64) (ho : opB zs = true) : opR zs = zs.take 56 ∧ zs = zs.take 56 ++ bys (sumN 0 (zs.take 56) : Nat) 8 := by
  have h1 : opR zs = zs.take 56 := by rw [opR_t ho, hl]
  refine ⟨h1, ?_⟩
  have h2 := of_decide_eq_true (show decide _ = true from ho)
  rw [hl] at h2
  rw [← h2.2, List.take_append_drop]
theorem spY_op (s : Shp) (m b : Int) : opB (spY s m b) = true ∧ opR (spY s m b) = ofL (spW s m b) := opB_seal (ofL_bytes _)
theorem nu_t {zs : List Int} (hb : Bytes zs) (h : nuB zs = true) : ∃ x0 x1 x2 x3 x4 x5 x6, nuL zs = [x0, x1, x2, x3, x4, x5, x6] ∧ okL [x0, x1, x2, x3, x4, x5, x6] = true ∧
    (RdH zs ↔ x0 = 54238244327242 ∧ HdP ⟨x2, x3, x4, x5⟩ x1 x6) ∧ (RdH zs → rhS zs = ⟨x2, x3, x4, x5⟩ ∧ rhM zs = x1 ∧ rhN zs = x6) := by
  obtain ⟨hl, ho, ha⟩ := of_decide_eq_true (show decide _ = true from h)
  have hL : nuL zs = allR (opR zs) := if_pos ⟨hl, ho⟩
  obtain ⟨h1, h2⟩ := op_line hl ho
  have hbt : Bytes (opR zs) := by rw [h1]; exact hb.take 56
  obtain ⟨h3, h4⟩ := of_all hbt ha
  have h7 : (allR (opR zs)).length = 7 := by
    have := congrArg List.length h4
    rw [ofL_length, h1, List.length_take, hl] at this
    rw [h1]
    omega
  obtain ⟨x0, x1, x2, x3, x4, x5, x6, hx⟩ := seven h7
  rw [hx] at h3 h4 hL
  have key : RdH zs → x0 = 54238244327242 ∧ HdP ⟨x2, x3, x4, x5⟩ x1 x6 := fun hR => by
    obtain ⟨s, m, b, hH, rfl⟩ := rdH_iff.1 hR
    rw [(spY_op s m b).2, (all_of hH.ok).2] at hx
    unfold spW at hx
    simp only [List.cons.injEq, and_true] at hx
    obtain ⟨e0, rfl, rfl, rfl, rfl, rfl, rfl⟩ := hx
    exact ⟨e0.symm, hH⟩
  have back : x0 = 54238244327242 → zs = spY ⟨x2, x3, x4, x5⟩ x1 x6 := fun e => by
    subst e
    rw [h1] at h4
    unfold spY
    rw [show spW ⟨x2, x3, x4, x5⟩ x1 x6 = [54238244327242, x1, x2, x3, x4, x5, x6] from rfl, h4]
    exact h2
  refine ⟨x0, x1, x2, x3, x4, x5, x6, hL, h3, ⟨key, fun k => rdH_iff.2 ⟨_, _, _, k.2, back k.1⟩⟩, fun hR => ?_⟩
  obtain ⟨e0, hH⟩ := key hR
  obtain ⟨_, a, b, c, _⟩ := rd_sp hH
  rw [back e0]
  exact ⟨a, b, c⟩
theorem nu_f {zs : List Int} (h : nuB zs = false) : ¬ RdH zs := fun hR => by
  obtain ⟨s, m, b, hH, rfl⟩ := rdH_iff.1 hR
  refine of_decide_eq_false (show decide _ = false from h) ⟨spY_len s m b, (spY_op s m b).1, ?_⟩
  rw [(spY_op s m b).2]
  exact (all_of hH.ok).1
theorem numbers_any (ao : Option Addr) (n cap : Nat) (zs : List Int) (w : World) (h : Sl .u8 w ao n cap zs) (hby : Bytes zs) (hn : n ≤ 140737488355328) :
    Calls Tryd.prog 22 #[.slice ao n cap] w fun e w' => ∃ a m c, e = .returned (.tuple #[.slice a m c, .bool (nuB zs)]) ∧ Own .i64 3 w.heap.size w' a m c (nuL zs) ∧ Below w.heap.size w w' := by
  have hlen := h.len
  by_cases h64 : n = 64
  · have cO := open_any ao n cap zs w h hby hn
    have hl : zs.length = 64 := by omega
    by_cases ho : opB zs = true
    · have e1 : nuL zs = allR (opR zs) := if_pos ⟨hl, ho⟩
      have e2 : nuB zs = allB (opR zs) := by
        unfold nuB
        rw [Bool.eq_iff_iff, decide_eq_true_eq]
        exact ⟨fun k => k.2.2, fun k => ⟨hl, ho, k⟩⟩
      rw [e1, e2]
      rw [ho] at cO
      have h1 := (op_line hl ho).1
      have hb2 : Bytes (opR zs) := by rw [h1]; exact hby.take 56
      have hl2 : (opR zs).length = 56 := by rw [h1, List.length_take, hl]; rfl
      generalize opR zs = ys at *
      have cA : ∀ bo m c w1, Own .u8 5 w.heap.size w1 bo m c ys → Below w.heap.size w w1 → Calls Tryd.prog 35 #[.slice bo m c] w1 fun e w' => ∃ ao' m cap', e = .returned (.tuple #[.slice ao' m cap', .bool (allB ys)]) ∧ Own .i64 3 w.heap.size w' ao' m cap' (allR ys) ∧ Below w.heap.size w w' := fun bo m c w1 ho1 hb1 => by
        refine (all_any bo m c ys w1 ho1.sl hb2 (by have := ho1.len; omega)).mono ?_
        rintro e w2 ⟨a2, m2, c2, rfl, ho2, hb3⟩
        exact ⟨a2, m2, c2, rfl, ho2.mono hb1.size, next hb1 hb3⟩
      clear h hby hb2 hl2 e1 e2 h1 ho hl hlen
      obtain rfl := h64
      go_enter Tryd.func22, Tryd.ntmps22
      go_wp2_with (first
        | (go_at_call 34; with_reducible refine cO.mono ?_; rintro e w1 ⟨bo, m, c, rfl, ho1, hb1⟩; have cA1 := cA bo m c w1 ho1 hb1; clear ho1)
        | (go_at_call 35; with_reducible refine cA1.mono ?_; rintro e w2 ⟨a2, m2, c2, rfl, ho2, hb2⟩))
      go_ret2
      exact ⟨a2, m2, c2, rfl, ho2, hb2⟩
    · have e1 : nuL zs = [] := if_neg (fun k => ho k.2)
      have e2 : nuB zs = false := decide_eq_false (fun k => ho k.2.1)
      rw [e1, e2]
      rw [show opB zs = false by simpa using ho] at cO
      clear h hby e1 e2 ho hl hlen
      obtain rfl := h64
      go_enter Tryd.func22, Tryd.ntmps22
      go_wp2_with (first
        | (go_at_call 34; with_reducible refine cO.mono ?_; rintro e w1 ⟨bo, m, c, rfl, ho1, hb1⟩; clear ho1))
      go_ret2
      exact ⟨none, 0, 0, rfl, own_nil _ _ _ _, hb1⟩
  · have e1 : nuL zs = [] := if_neg (fun k => h64 (by omega))
    have e2 : nuB zs = false := decide_eq_false (fun k => h64 (by omega))
    rw [e1, e2]
    have h64' : ¬ (n : Int) = 64 := by omega
    clear h hby e1 e2 hlen
    go_enter Tryd.func22, Tryd.ntmps22
    go_wp2
    go_ret2
    exact ⟨none, 0, 0, rfl, own_nil _ _ _ _, Below.refl _ _⟩
end Go.Proofs.YtfglbhdfdpnnfaaDoor
/- super.Read by its contract. -/
namespace Go.Proofs.YtfglbhdfdpnnfaaDoor
set_option maxRecDepth 100000
open Go.RowKit
set_option linter.unusedVariables false
set_option linter.unusedSimpArgs false
set_option maxRecDepth 100000

theorem own_seven {B : Nat} {w : World} {g c : Nat} {x0 x1 x2 x3 x4 x5 x6 : Int} (h : Own .i64 3 B w (some ⟨g, 0, none⟩) 7 c [x0, x1, x2, x3, x4, x5, x6]) : w.cell? ⟨g, 0, none⟩ = some (.int .i64 x0) ∧ w.cell? ⟨g, 1, none⟩ = some (.int .i64 x1) ∧ w.cell? ⟨g, 2, none⟩ = some (.int .i64 x2) ∧ w.cell? ⟨g, 3, none⟩ = some (.int .i64 x3) ∧ w.cell? ⟨g, 4, none⟩ = some (.int .i64 x4) ∧ w.cell? ⟨g, 5, none⟩ = some (.int .i64 x5) ∧ w.cell? ⟨g, 6, none⟩ = some (.int .i64 x6) := by
  obtain ⟨b, off, he, _, hc⟩ := h.sl.here (by omega)
  cases he
  have k0 := hc 0 (by omega)
  have k1 := hc 1 (by omega)
  have k2 := hc 2 (by omega)
  have k3 := hc 3 (by omega)
  have k4 := hc 4 (by omega)
  have k5 := hc 5 (by omega)
  have k6 := hc 6 (by omega)
  exact ⟨by simpa using k0, by simpa using k1, by simpa using k2, by simpa using k3, by simpa using k4, by simpa using k5, by simpa using k6⟩
/-- Where bytes are no line with a right sum. -/
theorem suRead_few (ao : Option Addr) (n cap : Nat) (zs : List Int) (w : World) (h : Sl .u8 w ao n cap zs) (hby : Bytes zs) (hn : n ≤ 140737488355328) (hno : nuB zs = false) :
    Calls Tryd.prog 9 #[.slice ao n cap] w fun e w' => e = .returned (.tuple #[.agg #[.int .i64 0, .int .i64 0, .int .i64 0, .int .i64 0], .int .i64 0, .int .i64 0, .bool false]) ∧ Below w.heap.size w w' := by
  have hb0 : Below w.heap.size w (w.alloc (.cells #[.int .i64 0, .int .i64 0, .int .i64 0, .int .i64 0] 23)) := (Below.refl _ _).alloc (Nat.le_refl _) _
  have hR := bxS4_new w zShp
  have cA : Calls Tryd.prog 22 #[.slice ao n cap] (w.alloc (.cells #[.int .i64 0, .int .i64 0, .int .i64 0, .int .i64 0] 23)) fun e w' => ∃ a m c, e = .returned (.tuple #[.slice a m c, .bool false]) ∧ Below w.heap.size w w' ∧ BxS4 w' w.heap.size zShp := by
    refine (numbers_any ao n cap zs _ (h.below hb0) hby hn).mono ?_
    rintro e w1 ⟨a1, n1, c1, rfl, ho1, hb1⟩
    rw [hno]
    exact ⟨a1, n1, c1, rfl, next hb0 hb1, hR.kept hb1⟩
  clear hno h hR hb0
  go_enter Tryd.func9, Tryd.ntmps9
  go_wp2_with (first
    | (go_at_call 22; with_reducible refine cA.mono ?_; rintro e w1 ⟨a1, n1, c1, rfl, hb1', hr1⟩; obtain ⟨q0, q1, q2, q3⟩ := hr1.cells; have f0 := hr1.free 0; have f1 := hr1.free 1; have f2 := hr1.free 2; have f3 := hr1.free 3))
  refine bodyPost_ret (v := .tuple #[.agg #[.int .i64 0, .int .i64 0, .int .i64 0, .int .i64 0], .int .i64 0, .int .i64 0, .bool false]) (by simp [results, Tryd.results9, go_sem, q0, q1, q2, q3]) rfl ⟨rfl, ?_⟩
  exact (((hb1'.setCell (by simp) _).setCell (by simp) _).setCell (by simp) _).setCell (by simp) _
/-- Where bytes are seven numbers and their sum. -/
theorem suRead_seven (ao : Option Addr) (n cap : Nat) (zs : List Int) (w : World) (h : Sl .u8 w ao n cap zs) (hby : Bytes zs) (hn : n ≤ 140737488355328) (ha : nuB zs = true) (x0 x1 x2 x3 x4 x5 x6 : Int) (hws : nuL zs = [x0, x1, x2, x3, x4, x5, x6]) (hok : okL [x0, x1, x2, x3, x4, x5, x6] = true) :
    Calls Tryd.prog 9 #[.slice ao n cap] w fun e w' => (x0 = 54238244327242 ∧ HdP ⟨x2, x3, x4, x5⟩ x1 x6 → e = .returned (.tuple #[.agg #[.int .i64 x2, .int .i64 x3, .int .i64 x4, .int .i64 x5], .int .i64 x1, .int .i64 x6, .bool true])) ∧ (¬ (x0 = 54238244327242 ∧ HdP ⟨x2, x3, x4, x5⟩ x1 x6) → e = .returned (.tuple #[.agg #[.int .i64 0, .int .i64 0, .int .i64 0, .int .i64 0], .int .i64 0, .int .i64 0, .bool false])) ∧ Below w.heap.size w w' := by
  have hb0 : Below w.heap.size w (w.alloc (.cells #[.int .i64 0, .int .i64 0, .int .i64 0, .int .i64 0] 23)) := (Below.refl _ _).alloc (Nat.le_refl _) _
  have hR := bxS4_new w zShp
  have cA : Calls Tryd.prog 22 #[.slice ao n cap] (w.alloc (.cells #[.int .i64 0, .int .i64 0, .int .i64 0, .int .i64 0] 23)) fun e w' => ∃ g c, e = .returned (.tuple #[.slice (some ⟨g, 0, none⟩) 7 c, .bool true]) ∧ Own .i64 3 (w.heap.size + 1) w' (some ⟨g, 0, none⟩) 7 c [x0, x1, x2, x3, x4, x5, x6] ∧ Below w.heap.size w w' ∧ BxS4 w' w.heap.size zShp := by
    refine (numbers_any ao n cap zs _ (h.below hb0) hby hn).mono ?_
    rintro e w1 ⟨a1, n1, c1, rfl, ho1, hb1⟩
    rw [hws] at ho1
    obtain rfl : n1 = 7 := ho1.len.symm
    obtain ⟨g, cap', he⟩ := own_shape ho1.row (by omega)
    cases he
    rw [ha]
    exact ⟨g, c1, rfl, by simpa using ho1, next hb0 hb1, hR.kept hb1⟩
  have rg : ∀ j, j < 7 → Rg ([x0, x1, x2, x3, x4, x5, x6].getD j 0) := fun j hj => by
    have := fitB_and (okL_at hok j hj)
    unfold Rg
    omega
  have cR : ∀ w1, _ := fun w1 => suRight_any ⟨x2, x3, x4, x5⟩ ⟨rg 2 (by omega), rg 3 (by omega), rg 4 (by omega), rg 5 (by omega)⟩ x1 x6 (rg 1 (by omega)) (rg 6 (by omega)) w1
  clear hws ha hR hok rg
  by_cases h0 : x0 = 54238244327242
  · subst h0
    simp only [true_and]
    have hp : hpB ⟨x2, x3, x4, x5⟩ x1 x6 = decide (HdP ⟨x2, x3, x4, x5⟩ x1 x6) := rfl
    by_cases hH : HdP ⟨x2, x3, x4, x5⟩ x1 x6
    · rw [hp, decide_eq_true hH] at cR
      have HH := hid hH
      clear hp
      generalize HdP ⟨x2, x3, x4, x5⟩ x1 x6 = PH at *
      clear h hby hb0 hH
      go_enter Tryd.func9, Tryd.ntmps9
      go_wp2_with (first
        | (go_at_call 22; with_reducible refine cA.mono ?_; rintro e w1 ⟨g, c, rfl, ho1, hb1, hr1⟩; obtain ⟨y0, y1, y2, y3, y4, y5, y6⟩ := own_seven ho1; have hglt := World.block_lt_of_cell? w1 _ y0; have hge := own_ge ho1))
      go_region_held3 (fun w' => w'.cell? ⟨g, 2, none⟩ = some (.int .i64 x2) ∧ w'.cell? ⟨g, 3, none⟩ = some (.int .i64 x3) ∧ w'.cell? ⟨g, 4, none⟩ = some (.int .i64 x4) ∧ w'.cell? ⟨g, 5, none⟩ = some (.int .i64 x5)) (go_keep) (fail)
      have hb2 : Below w1.heap.size w1 (w1.alloc (.cells #[.int .i64 x2, .int .i64 x3, .int .i64 x4, .int .i64 x5] 23)).drew := ((Below.refl _ _).alloc (Nat.le_refl _) _).drew
      have hsh : BxS4 (w1.alloc (.cells #[.int .i64 x2, .int .i64 x3, .int .i64 x4, .int .i64 x5] 23)).drew w1.heap.size ⟨x2, x3, x4, x5⟩ := (bxS4_new w1 ⟨x2, x3, x4, x5⟩).kept (Below.refl _ _).drew
      have hr2 := hr1.kept hb2
      have ho2 := ho1.below hb2
      have hbw2 := next hb1 hb2
      have hl2 : w1.heap.size < (w1.alloc (.cells #[.int .i64 x2, .int .i64 x3, .int .i64 x4, .int .i64 x5] 23)).drew.heap.size := by simp
      have hq1 := hr1.lt
      clear y0 y1 y2 y3 y4 y5 y6 ho1 hr1 hb1 hb2
      generalize (w1.alloc (.cells #[.int .i64 x2, .int .i64 x3, .int .i64 x4, .int .i64 x5] 23)).drew = w2 at *
      obtain ⟨y0, y1, y2, y3, y4, y5, y6⟩ := own_seven ho2
      go_wp2_with fail
      go_region_held3 (fun w' => w'.cell? ⟨g, 1, none⟩ = some (.int .i64 x1) ∧ w'.cell? ⟨g, 6, none⟩ = some (.int .i64 x6)) (go_keep) (fail)
      have HW : Hid (∀ w3, Below w2.drew.heap.size w2.drew w3 → BxS4 w3 w.heap.size zShp ∧ BxS4 w3 w1.heap.size ⟨x2, x3, x4, x5⟩ ∧ Below w.heap.size w w3) := hid (fun w3 hb3 => by
        have hd : Below w2.heap.size w2 w2.drew := (Below.refl _ _).drew
        exact ⟨(hr2.kept hd).kept hb3, (hsh.kept hd).kept hb3, next (next hbw2 hd) hb3⟩)
      obtain ⟨s0, s1, s2, s3⟩ := hsh.cells
      have hne : w1.heap.size ≠ w.heap.size := by omega
      have hne' : w.heap.size ≠ w1.heap.size := by omega
      clear hr2 hsh ho2 y0 y1 y2 y3 y4 y5 y6
      go_wp2_with (first
        | (go_at_call 18; with_reducible refine (cR _).mono ?_; rintro e w3 ⟨rfl, hb3⟩; obtain ⟨hr3, hs3, hbw3⟩ := HW.out w3 hb3; obtain ⟨s0, s1, s2, s3⟩ := hs3.cells; obtain ⟨r0, r1, r2, r3⟩ := hr3.cells; have f0 := hr3.free 0; have f1 := hr3.free 1; have f2 := hr3.free 2; have f3 := hr3.free 3))
      refine bodyPost_ret (v := .tuple #[.agg #[.int .i64 x2, .int .i64 x3, .int .i64 x4, .int .i64 x5], .int .i64 x1, .int .i64 x6, .bool true]) (by simp [results, Tryd.results9, go_sem, r0, r1, r2, r3]) rfl ⟨fun _ => rfl, fun k => absurd HH.out k, ?_⟩
      exact (((hbw3.setCell (by simp) _).setCell (by simp) _).setCell (by simp) _).setCell (by simp) _
    · rw [hp, decide_eq_false hH] at cR
      have HH := hid hH
      clear hp
      generalize HdP ⟨x2, x3, x4, x5⟩ x1 x6 = PH at *
      clear h hby hb0 hH
      go_enter Tryd.func9, Tryd.ntmps9
      go_wp2_with (first
        | (go_at_call 22; with_reducible refine cA.mono ?_; rintro e w1 ⟨g, c, rfl, ho1, hb1, hr1⟩; obtain ⟨y0, y1, y2, y3, y4, y5, y6⟩ := own_seven ho1; have hglt := World.block_lt_of_cell? w1 _ y0; have hge := own_ge ho1))
      go_region_held3 (fun w' => w'.cell? ⟨g, 2, none⟩ = some (.int .i64 x2) ∧ w'.cell? ⟨g, 3, none⟩ = some (.int .i64 x3) ∧ w'.cell? ⟨g, 4, none⟩ = some (.int .i64 x4) ∧ w'.cell? ⟨g, 5, none⟩ = some (.int .i64 x5)) (go_keep) (fail)
      have hb2 : Below w1.heap.size w1 (w1.alloc (.cells #[.int .i64 x2, .int .i64 x3, .int .i64 x4, .int .i64 x5] 23)).drew := ((Below.refl _ _).alloc (Nat.le_refl _) _).drew
      have hsh : BxS4 (w1.alloc (.cells #[.int .i64 x2, .int .i64 x3, .int .i64 x4, .int .i64 x5] 23)).drew w1.heap.size ⟨x2, x3, x4, x5⟩ := (bxS4_new w1 ⟨x2, x3, x4, x5⟩).kept (Below.refl _ _).drew
      have hr2 := hr1.kept hb2
      have ho2 := ho1.below hb2
      have hbw2 := next hb1 hb2
      have hl2 : w1.heap.size < (w1.alloc (.cells #[.int .i64 x2, .int .i64 x3, .int .i64 x4, .int .i64 x5] 23)).drew.heap.size := by simp
      have hq1 := hr1.lt
      clear y0 y1 y2 y3 y4 y5 y6 ho1 hr1 hb1 hb2
      generalize (w1.alloc (.cells #[.int .i64 x2, .int .i64 x3, .int .i64 x4, .int .i64 x5] 23)).drew = w2 at *
      obtain ⟨y0, y1, y2, y3, y4, y5, y6⟩ := own_seven ho2
      go_wp2_with fail
      go_region_held3 (fun w' => w'.cell? ⟨g, 1, none⟩ = some (.int .i64 x1) ∧ w'.cell? ⟨g, 6, none⟩ = some (.int .i64 x6)) (go_keep) (fail)
      have HW : Hid (∀ w3, Below w2.drew.heap.size w2.drew w3 → BxS4 w3 w.heap.size zShp ∧ BxS4 w3 w1.heap.size ⟨x2, x3, x4, x5⟩ ∧ Below w.heap.size w w3) := hid (fun w3 hb3 => by
        have hd : Below w2.heap.size w2 w2.drew := (Below.refl _ _).drew
        exact ⟨(hr2.kept hd).kept hb3, (hsh.kept hd).kept hb3, next (next hbw2 hd) hb3⟩)
      obtain ⟨s0, s1, s2, s3⟩ := hsh.cells
      have hne : w1.heap.size ≠ w.heap.size := by omega
      have hne' : w.heap.size ≠ w1.heap.size := by omega
      clear hr2 hsh ho2 y0 y1 y2 y3 y4 y5 y6
      go_wp2_with (first
        | (go_at_call 18; with_reducible refine (cR _).mono ?_; rintro e w3 ⟨rfl, hb3⟩; obtain ⟨hr3, hs3, hbw3⟩ := HW.out w3 hb3; obtain ⟨s0, s1, s2, s3⟩ := hs3.cells; obtain ⟨r0, r1, r2, r3⟩ := hr3.cells; have f0 := hr3.free 0; have f1 := hr3.free 1; have f2 := hr3.free 2; have f3 := hr3.free 3))
      refine bodyPost_ret (v := .tuple #[.agg #[.int .i64 0, .int .i64 0, .int .i64 0, .int .i64 0], .int .i64 0, .int .i64 0, .bool false]) (by simp [results, Tryd.results9, go_sem, r0, r1, r2, r3]) rfl ⟨fun k => absurd k HH.out, fun _ => rfl, ?_⟩
      exact (((hbw3.setCell (by simp) _).setCell (by simp) _).setCell (by simp) _).setCell (by simp) _
  · have HF : Hid (¬ (x0 = 54238244327242 ∧ HdP ⟨x2, x3, x4, x5⟩ x1 x6)) := hid (fun k => h0 k.1)
    generalize HdP ⟨x2, x3, x4, x5⟩ x1 x6 = PH at *
    clear h hby hb0 cR
    go_enter Tryd.func9, Tryd.ntmps9
    go_wp2_with (first
      | (go_at_call 22; with_reducible refine cA.mono ?_; rintro e w1 ⟨g, c, rfl, ho1, hb1', hr1⟩; obtain ⟨y0, y1, y2, y3, y4, y5, y6⟩ := own_seven ho1; obtain ⟨q0, q1, q2, q3⟩ := hr1.cells; have f0 := hr1.free 0; have f1 := hr1.free 1; have f2 := hr1.free 2; have f3 := hr1.free 3))
    refine bodyPost_ret (v := .tuple #[.agg #[.int .i64 0, .int .i64 0, .int .i64 0, .int .i64 0], .int .i64 0, .int .i64 0, .bool false]) (by simp [results, Tryd.results9, go_sem, q0, q1, q2, q3]) rfl ⟨fun k => absurd k HF.out, fun _ => rfl, ?_⟩
    exact (((hb1'.setCell (by simp) _).setCell (by simp) _).setCell (by simp) _).setCell (by simp) _
theorem suRead_any (ao : Option Addr) (n cap : Nat) (zs : List Int) (w : World) (h : Sl .u8 w ao n cap zs) (hby : Bytes zs) (hn : n ≤ 140737488355328) :
    Calls Tryd.prog 9 #[.slice ao n cap] w fun e w' => e = .returned (.tuple #[.agg #[.int .i64 (rhS zs).pg, .int .i64 (rhS zs).sl, .int .i64 (rhS zs).rt, .int .i64 (rhS zs).rm], .int .i64 (rhM zs), .int .i64 (rhN zs), .bool (rhB zs)]) ∧ Below w.heap.size w w' := by
  by_cases ha : nuB zs = true
  · obtain ⟨x0, x1, x2, x3, x4, x5, x6, hx, hok, hi, hv⟩ := nu_t hby ha
    refine (suRead_seven ao n cap zs w h hby hn ha x0 x1 x2 x3 x4 x5 x6 hx hok).mono ?_
    rintro e w' ⟨h1, h2, hb⟩
    refine ⟨?_, hb⟩
    by_cases hR : RdH zs
    · rw [h1 (hi.1 hR)]
      obtain ⟨a, b, c⟩ := hv hR
      rw [a, b, c, (rh_t hR).2.2.2]
    · rw [h2 (fun k => hR (hi.2 k))]
      obtain ⟨a, b, c, d⟩ := rh_f hR
      rw [a, b, c, d]
  · have ha' : nuB zs = false := by simpa using ha
    refine (suRead_few ao n cap zs w h hby hn ha').mono ?_
    rintro e w' ⟨h1, hb⟩
    refine ⟨?_, hb⟩
    obtain ⟨a, b, c, d⟩ := rh_f (nu_f ha')
    rw [h1, a, b, c, d]
end Go.Proofs.YtfglbhdfdpnnfaaDoor
