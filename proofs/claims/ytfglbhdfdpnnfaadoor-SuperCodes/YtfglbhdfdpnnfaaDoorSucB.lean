/- What the seven numbers ahead of a line's sum tell, in plain words; super.numbers by its contract. -/
import Derived.Test.YtfglbhdfdpnnfaaDoorSucA
namespace Go.Proofs.YtfglbhdfdpnnfaaDoor
set_option maxRecDepth 100000
open Go.RowKit
set_option linter.unusedVariables false
set_option linter.unusedSimpArgs false
set_option maxRecDepth 100000

/-- What numbers answers. -/
def nuB (zs : List Int) : Bool := decide (zs.length = 64 ∧ opB zs = true ∧ allB (opR zs) = true)
def nuL (zs : List Int) : List Int := if zs.length = 64 ∧ opB zs = true then allR (opR zs) else []
theorem seven {l : List Int} (h : l.length = 7) : ∃ a b c d e f g, l = [a, b, c, d, e, f, g] := by
  match l, h with
  | [a, b, c, d, e, f, g], _ => exact ⟨a, b, c, d, e, f, g, rfl⟩
theorem op_line {zs : List Int} (hl : zs.length = 64) (ho : opB zs = true) : opR zs = zs.take 56 ∧ zs = zs.take 56 ++ bys (sumN 0 (zs.take 56) : Nat) 8 := by
  have h1 : opR zs = zs.take 56 := by rw [opR_t ho, hl]
  refine ⟨h1, ?_⟩
  have h2 := of_decide_eq_true (show decide _ = true from ho)
  rw [hl] at h2
  rw [← h2.2, List.take_append_drop]
theorem spY_op (s : Shp) (m b : Int) : opB (spY s m b) = true ∧ opR (spY s m b) = ofL (spW s m b) := opB_seal (ofL_bytes _)
theorem nu_t {zs : List Int} (hb : Bytes zs) (h : nuB zs = true) : ∃ x0 x1 x2 x3 x4 x5 x6, nuL zs = [x0, x1, x2, x3, x4, x5, x6] ∧ okL [x0, x1, x2, x3, x4, x5, x6] = true ∧
    (RdH zs ↔ x0 = 54238244327242 ∧ HdP ⟨x2, x3, x4, x5⟩ x1 x6) ∧ (RdH zs → rhS zs = ⟨x2, x3, x4, x5⟩ ∧ rhM zs = x1 ∧ rhN zs = x6) := by
  obtain ⟨hl, ho, ha⟩ := of_decide_eq_true (show decide _ = true from h)
  have hL : nuL zs = allR (opR zs) := if_pos ⟨hl, ho⟩
  obtain ⟨h1, h2⟩ := op_line hl ho
  have hbt : Bytes (opR zs) := by rw [h1]; exact hb.take 56
  obtain ⟨h3, h4⟩ := of_all hbt ha
  have h7 : (allR (opR zs)).length = 7 := by
    have := congrArg List.length h4
    rw [ofL_length, h1, List.length_take, hl] at this
    rw [h1]
    omega
  obtain ⟨x0, x1, x2, x3, x4, x5, x6, hx⟩ := seven h7
  rw [hx] at h3 h4 hL
  have key : RdH zs → x0 = 54238244327242 ∧ HdP ⟨x2, x3, x4, x5⟩ x1 x6 := fun hR => by
    obtain ⟨s, m, b, hH, rfl⟩ := rdH_iff.1 hR
    rw [(spY_op s m b).2, (all_of hH.ok).2] at hx
    unfold spW at hx
    simp only [List.cons.injEq, and_true] at hx
    obtain ⟨e0, rfl, rfl, rfl, rfl, rfl, rfl⟩ := hx
    exact ⟨e0.symm, hH⟩
  have back : x0 = 54238244327242 → zs = spY ⟨x2, x3, x4, x5⟩ x1 x6 := fun e => by
    subst e
    rw [h1] at h4
    unfold spY
    rw [show spW ⟨x2, x3, x4, x5⟩ x1 x6 = [54238244327242, x1, x2, x3, x4, x5, x6] from rfl, h4]
    exact h2
  refine ⟨x0, x1, x2, x3, x4, x5, x6, hL, h3, ⟨key, fun k => rdH_iff.2 ⟨_, _, _, k.2, back k.1⟩⟩, fun hR => ?_⟩
  obtain ⟨e0, hH⟩ := key hR
  obtain ⟨_, a, b, c, _⟩ := rd_sp hH
  rw [back e0]
  exact ⟨a, b, c⟩
theorem nu_f {zs : List Int} (h : nuB zs = false) : ¬ RdH zs := fun hR => by
  obtain ⟨s, m, b, hH, rfl⟩ := rdH_iff.1 hR
  refine of_decide_eq_false (show decide _ = false from h) ⟨spY_len s m b, (spY_op s m b).1, ?_⟩
  rw [(spY_op s m b).2]
  exact (all_of hH.ok).1
theorem numbers_any (ao : Option Addr) (n cap : Nat) (zs : List Int) (w : World) (h : Sl .u8 w ao n cap zs) (hby : Bytes zs) (hn : n ≤ 140737488355328) :
    Calls Tryd.prog 22 #[.slice ao n cap] w fun e w' => ∃ a m c, e = .returned (.tuple #[.slice a m c, .bool (nuB zs)]) ∧ Own .i64 3 w.heap.size w' a m c (nuL zs) ∧ Below w.heap.size w w' := by
  have hlen := h.len
  by_cases h64 : n = 64
  · have cO := open_any ao n cap zs w h hby hn
    have hl : zs.length = 64 := by omega
    by_cases ho : opB zs = true
    · have e1 : nuL zs = allR (opR zs) := if_pos ⟨hl, ho⟩
      have e2 : nuB zs = allB (opR zs) := by
        unfold nuB
        rw [Bool.eq_iff_iff, decide_eq_true_eq]
        exact ⟨fun k => k.2.2, fun k => ⟨hl, ho, k⟩⟩
      rw [e1, e2]
      rw [ho] at cO
      have h1 := (op_line hl ho).1
      have hb2 : Bytes (opR zs) := by rw [h1]; exact hby.take 56
      have hl2 : (opR zs).length = 56 := by rw [h1, List.length_take, hl]; rfl
      generalize opR zs = ys at *
      have cA : ∀ bo m c w1, Own .u8 5 w.heap.size w1 bo m c ys → Below w.heap.size w w1 → Calls Tryd.prog 35 #[.slice bo m c] w1 fun e w' => ∃ ao' m cap', e = .returned (.tuple #[.slice ao' m cap', .bool (allB ys)]) ∧ Own .i64 3 w.heap.size w' ao' m cap' (allR ys) ∧ Below w.heap.size w w' := fun bo m c w1 ho1 hb1 => by
        refine (all_any bo m c ys w1 ho1.sl hb2 (by have := ho1.len; omega)).mono ?_
        rintro e w2 ⟨a2, m2, c2, rfl, ho2, hb3⟩
        exact ⟨a2, m2, c2, rfl, ho2.mono hb1.size, next hb1 hb3⟩
      clear h hby hb2 hl2 e1 e2 h1 ho hl hlen
      obtain rfl := h64
      go_enter Tryd.func22, Tryd.ntmps22
      go_wp2_with (first
        | (go_at_call 34; with_reducible refine cO.mono ?_; rintro e w1 ⟨bo, m, c, rfl, ho1, hb1⟩; have cA1 := cA bo m c w1 ho1 hb1; clear ho1)
        | (go_at_call 35; with_reducible refine cA1.mono ?_; rintro e w2 ⟨a2, m2, c2, rfl, ho2, hb2⟩))
      go_ret2
      exact ⟨a2, m2, c2, rfl, ho2, hb2⟩
    · have e1 : nuL zs = [] := if_neg (fun k => ho k.2)
      have e2 : nuB zs = false := decide_eq_false (fun k => ho k.2.1)
      rw [e1, e2]
      rw [show opB zs = false by simpa using ho] at cO
      clear h hby e1 e2 ho hl hlen
      obtain rfl := h64
      go_enter Tryd.func22, Tryd.ntmps22
      go_wp2_with (first
        | (go_at_call 34; with_reducible refine cO.mono ?_; rintro e w1 ⟨bo, m, c, rfl, ho1, hb1⟩; clear ho1))
      go_ret2
      exact ⟨none, 0, 0, rfl, own_nil _ _ _ _, hb1⟩
  · have e1 : nuL zs = [] := if_neg (fun k => h64 (by omega))
    have e2 : nuB zs = false := decide_eq_false (fun k => h64 (by omega))
    rw [e1, e2]
    have h64' : ¬ (n : Int) = 64 := by omega
    clear h hby e1 e2 hlen
    go_enter Tryd.func22, Tryd.ntmps22
    go_wp2
    go_ret2
    exact ⟨none, 0, 0, rfl, own_nil _ _ _ _, Below.refl _ _⟩
end Go.Proofs.YtfglbhdfdpnnfaaDoor
