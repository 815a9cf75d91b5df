/- 'ShapeTells': for every input the law returns true and leaves its arguments as they were; no condition beyond the statement's own. -/
import Derived.Test.YtgjigjjlkpkjeaaShapeTellsWalk
import Derived.Test.YtgjigjjlkpkjeaaRows
import Derived.Test.YtgjigjjlkpkjeaaOpen
import Derived.Lib.SmallJoins
import Derived.ProofKit
import Derived.OpenShut
import Derived.ShutString
import Derived.ChangeOld
import Derived.Below
import Derived.SizedLaws
namespace Go.Proofs.Ytgjigjjlkpkjeaa.shapeTells
open Go.ChangeShapes Go.WideShapes Go.ChangeAt Go.RowKit
open Go.ChangeMaps (open_string shut_string)
open Go.Joins
set_option linter.unusedVariables false

theorem own : ownKnob Try.prog.godebug = none := by kernel_rfl
theorem laidOut : laidOutB Try.prog = true := by kernel_rfl

set_option maxRecDepth 100000 in
theorem lifted (os : Os) (started : os.Started) (H : Type) (enc : TypeId × Value → H) :
    ReturnsInHanded {} Try.checked os 3 .any (Rows.shapeTellsSpec.pre6 enc Try.prog Try.f3 Rows.shapeTellsRow.domain false) (Rows.shapeTellsSpec.post enc Try.prog Try.f3 false true false false) := by
  refine returnsInHanded_of_change_sized (C := Try.checked) own started (by kernel_rfl) Try.func3
    (ChangeSpec.witness6 (enc := enc) (C := Try.checked) false ⟨#[], #[.agg #[.int .i64 0, .int .i64 0, .int .i64 0, .int .i64 0], .int .i64 0], []⟩ 8 (by kernel_rfl) (by kernel_rfl) (by kernel_rfl) (by kernel_rfl)) ?_
  intro W base args ds gs before hval0 hW _ hsz0 _
  have hsz : (DataW.weightsEach Try.prog (Try.f3.params.toList ++ Rows.shapeTellsSpec.plain.varTypes Try.prog) (ds ++ gs)).all (· ≤ reachBytes) = true := hsz0
  clear hsz0
  have hval : ∀ (j : Nat) t v, Try.f3.params[j]? = some t → args[j]? = some v → Value.okWide Try.prog W .any base t v := hval0
  have hW' := hW
  obtain ⟨p, q, hA0, hV, rfl, hfz, hnd⟩ := hW
  have hA : DataW.TrodAll enc Try.prog W 0 (fun _ => true) true Try.f3.params.toList args.toList ds p := hA0
  rw [Try.params3] at hA hval hsz
  obtain ⟨v0, vs0, d0, ds0, p0, q0, hargs, rfl, rfl, h0, r0⟩ := trodAll_cons hA
  obtain ⟨v1, vs1, d1, ds1, p1, q1, rfl, rfl, rfl, h1, r1⟩ := trodAll_cons r0
  obtain ⟨rfl, rfl, rfl⟩ := trodAll_nil r1
  obtain rfl : args = #[v0, v1] := by cases args; simp_all
  obtain ⟨rfl, rfl⟩ := trodVars_none hV
  obtain ⟨x0, y0, z0, k0, u0, t0, r0', l0', n0, rfl, rfl, rfl, hx0, hy0, hz0, hk0⟩ := open_agg4 Try.underlying23 (by kernel_rfl) (by kernel_rfl) (hval 0 23 v0 rfl rfl) h0
  obtain ⟨P0, ep0, rfl, wp0⟩ := DataW.trod_int Try.underlying3 hx0
  obtain ⟨S0, es0, rfl, ws0⟩ := DataW.trod_int Try.underlying3 hy0
  obtain ⟨R0, er0, rfl, wr0⟩ := DataW.trod_int Try.underlying3 hz0
  obtain ⟨M0, em0, rfl, wm0⟩ := DataW.trod_int Try.underlying3 hk0
  simp at ep0 es0 er0 em0
  subst ep0 es0 er0 em0
  have sg0 : ∀ (W' : World) (sp : Nat → Bool), DataW.Trod enc Try.prog W' 0 sp true 23 (.agg #[.int .i64 P0, .int .i64 S0, .int .i64 R0, .int .i64 M0]) (.agg [.lit (.int .i64 P0), .lit (.int .i64 S0), .lit (.int .i64 R0), .lit (.int .i64 M0)]) ([] ++ ([] ++ ([] ++ []))) := fun W' sp =>
    shut_agg4 (y0 := (.lit (.int .i64 P0), [])) (y1 := (.lit (.int .i64 S0), [])) (y2 := (.lit (.int .i64 R0), [])) (y3 := (.lit (.int .i64 M0), [])) Try.underlying23 (by kernel_rfl) (by kernel_rfl) ⟨1, by simp [DataW.trod, Try.underlying3, wp0]⟩ ⟨1, by simp [DataW.trod, Try.underlying3, ws0]⟩ ⟨1, by simp [DataW.trod, Try.underlying3, wr0]⟩ ⟨1, by simp [DataW.trod, Try.underlying3, wm0]⟩
  obtain ⟨a1, rfl, rfl, rfl, f1⟩ := open_int Try.underlying3 (hval 1 3 v1 rfl rfl) h1
  clear hA0 hval0
  refine (shapeTells_walk W ⟨P0, S0, R0, M0⟩ ⟨bounds_i64 wp0, bounds_i64 ws0, bounds_i64 wr0, bounds_i64 wm0⟩ a1 f1).mono fun e W' ⟨he, bel⟩ => ?_
  subst he
  exact ⟨_, rfl, _, _, _, [], _, [], hW', trodAll_mk1 (shut_bool Try.underlying4 _), (trodAll_cons_mk (sg0 _ _) (trodAll_cons_mk (shut_int Try.underlying3 f1) trodAll_mk0)), rfl, bel.frame _, fun h => by cases h⟩

theorem over : Rows.shapeTellsRow.holds Try.pinned (OpenSpec.ofChange Rows.shapeTellsSpec) :=
  OpenClaim.holds_of_wide 3 Try.f3 rfl rfl rfl rfl rfl rfl rfl ⟨rfl, rfl, rfl, rfl, rfl⟩ rfl rfl rfl rfl rfl (by kernel_rfl) Try.func3 (by kernel_rfl)
    (of_decide_eq_true (by kernel_rfl)) (by unfold Func.isWrapper; first | (rw [if_pos (by decide +kernel)]; kernel_rfl) | (rw [if_neg (by decide +kernel)]; exact ⟨rfl, rfl⟩))
    (fun os started H enc _ => lifted os started H enc)
end Go.Proofs.Ytgjigjjlkpkjeaa.shapeTells
namespace Go.Proofs.Ytgjigjjlkpkjeaa

theorem shapeTells_holds : Rows.ShapeTellsSaid := shapeTells.over
#print axioms shapeTells_holds
end Go.Proofs.Ytgjigjjlkpkjeaa
