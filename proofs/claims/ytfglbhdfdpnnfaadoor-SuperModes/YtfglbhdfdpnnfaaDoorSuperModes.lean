/- 'SuperModes': for every input the law returns true and leaves its arguments as they were; no condition beyond the statement's own. -/
import Derived.Test.YtfglbhdfdpnnfaaDoorSuperModesWalk
import Derived.Test.YtfglbhdfdpnnfaaDoorRows
import Derived.Test.YtfglbhdfdpnnfaaDoorOpen
import Derived.Lib.SmallJoins
import Derived.ProofKit
import Derived.OpenShut
import Derived.ShutString
import Derived.ChangeOld
import Derived.Below
import Derived.SizedLaws
import Derived.Test.YtfglbhdfdpnnfaaDoorCards
import Derived.Test.YtfglbhdfdpnnfaaDoorTie
import Derived.LaidMore
import Derived.Lay
import Derived.SevenTiedAt
import Derived.Stop.Joined
import Derived.Test.YtfglbhdfdpnnfaaDoorStrTab
import Derived.Stop.LaidErr
namespace Go.Proofs.YtfglbhdfdpnnfaaDoor.superModes
open Go.ChangeShapes Go.WideShapes Go.ChangeAt Go.RowKit
open Go.ChangeMaps (open_string shut_string)
open Go.Joins
set_option linter.unusedVariables false

theorem own : ownKnob Tryd.prog.godebug = none := by kernel_rfl
theorem laidOut : laidOutB Tryd.prog = true := by kernel_rfl

theorem laid_tab : (Rows.laid_joist_super_names : DataW Unit) = strData [nmT 0, nmT 1, nmT 2, nmT 3, nmT 4] := by kernel_rfl
theorem tab_of {W : World} (h : laidMet Tryd.prog [("joist/super.names", Rows.laid_joist_super_names)] W) : Nms W := by
  rw [laid_tab] at h
  have hT := strs_of_head (g := 0) (by kernel_rfl) (by kernel_rfl) Tryd.underlying45 Tryd.underlying9 (by kernel_rfl) (by kernel_rfl) h
  have hc : ∀ i : Nat, i < 5 → W.cell? ⟨0, i, none⟩ = some (.string (nmT i)) := fun i hi => by
    have := hT i hi
    obtain rfl | rfl | rfl | rfl | rfl : i = 0 ∨ i = 1 ∨ i = 2 ∨ i = 3 ∨ i = 4 := by omega
    all_goals exact this
  exact ⟨World.block_lt_of_cell? W _ (hc 0 (by omega)), hc⟩

set_option maxRecDepth 100000 in
theorem lifted (os : Os) (started : os.Started) (H : Type) (enc : TypeId × Value → H) :
    ReturnsInHanded {} Tryd.checked os 5 .any (fun w args => (Rows.superModesSpec.pre enc Tryd.prog Tryd.f5 Rows.superModesRow.domain false w args ∧ laidMetH Tryd.prog Rows.superModesRow.laid w) ∧ sizedMet enc Tryd.prog Tryd.f5 (OpenSpec.ofChange Rows.superModesSpec) false w args) (Rows.superModesSpec.post enc Tryd.prog Tryd.f5 false true false false) := by
  refine returnsInHanded_of_change_and (C := Tryd.checked) (X := fun w _ => laidMetH Tryd.prog Rows.superModesRow.laid w) (fun _ _ _ hh h => h.of_heap hh) own started (by kernel_rfl) Tryd.func5
    (ChangeSpec.witness_shaped (enc := enc) (C := Tryd.checked) (os := os) (X := fun w _ => laidMetH Tryd.prog Rows.superModesRow.laid w) false (World.laidAll Tryd.prog os Rows.superModesRow.laid) #[.agg #[.int .i64 0, .int .i64 0, .int .i64 0, .int .i64 0], .int .i64 0, .int .i64 0] 8 (World.laidAll_os _ _ _)
      (World.shaped_of_ZipB (by kernel_rfl) (by kernel_rfl)) (by kernel_rfl) (by kernel_rfl) (by kernel_rfl)
      (by rw [MakeChecks.laidMetH_plain _ _ _ (by kernel_rfl)]; exact laidMet_laidAll _ (by kernel_rfl) (by kernel_rfl))) ?_
  intro W base args ds gs before hval0 hW _ hsz0 hX _
  have T : Nms W := by
    rw [MakeChecks.laidMetH_plain _ _ _ (by kernel_rfl)] at hX
    exact tab_of hX
  have hsz : (DataW.weightsEach Tryd.prog (Tryd.f5.params.toList ++ Rows.superModesSpec.plain.varTypes Tryd.prog) (ds ++ gs)).all (· ≤ reachBytes) = true := hsz0
  clear hsz0
  have hval : ∀ (j : Nat) t v, Tryd.f5.params[j]? = some t → args[j]? = some v → Value.okWide Tryd.prog W .any base t v := hval0
  have hW' := hW
  obtain ⟨p, q, hA0, hV, rfl, hfz, hnd⟩ := hW
  have hA : DataW.TrodAll enc Tryd.prog W 0 (fun _ => true) true Tryd.f5.params.toList args.toList ds p := hA0
  rw [Tryd.params5] at hA hval hsz
  obtain ⟨v0, vs0, d0, ds0, p0, q0, hargs, rfl, rfl, h0, r0⟩ := trodAll_cons hA
  obtain ⟨v1, vs1, d1, ds1, p1, q1, rfl, rfl, rfl, h1, r1⟩ := trodAll_cons r0
  obtain ⟨v2, vs2, d2, ds2, p2, q2, rfl, rfl, rfl, h2, r2⟩ := trodAll_cons r1
  obtain ⟨rfl, rfl, rfl⟩ := trodAll_nil r2
  obtain rfl : args = #[v0, v1, v2] := by cases args; simp_all
  obtain ⟨rfl, rfl⟩ := trodVars_none hV
  obtain ⟨x0, y0, z0, k0, u0, t0, r0', l0', n0, rfl, rfl, rfl, hx0, hy0, hz0, hk0⟩ := open_agg4 Tryd.underlying23 (by kernel_rfl) (by kernel_rfl) (hval 0 23 v0 rfl rfl) h0
  obtain ⟨P0, ep0, rfl, wp0⟩ := DataW.trod_int Tryd.underlying3 hx0
  obtain ⟨S0, es0, rfl, ws0⟩ := DataW.trod_int Tryd.underlying3 hy0
  obtain ⟨R0, er0, rfl, wr0⟩ := DataW.trod_int Tryd.underlying3 hz0
  obtain ⟨M0, em0, rfl, wm0⟩ := DataW.trod_int Tryd.underlying3 hk0
  simp at ep0 es0 er0 em0
  subst ep0 es0 er0 em0
  have sg0 : ∀ (W' : World) (sp : Nat → Bool), DataW.Trod enc Tryd.prog W' 0 sp true 23 (.agg #[.int .i64 P0, .int .i64 S0, .int .i64 R0, .int .i64 M0]) (.agg [.lit (.int .i64 P0), .lit (.int .i64 S0), .lit (.int .i64 R0), .lit (.int .i64 M0)]) ([] ++ ([] ++ ([] ++ []))) := fun W' sp =>
    shut_agg4 (y0 := (.lit (.int .i64 P0), [])) (y1 := (.lit (.int .i64 S0), [])) (y2 := (.lit (.int .i64 R0), [])) (y3 := (.lit (.int .i64 M0), [])) Tryd.underlying23 (by kernel_rfl) (by kernel_rfl) ⟨1, by simp [DataW.trod, Tryd.underlying3, wp0]⟩ ⟨1, by simp [DataW.trod, Tryd.underlying3, ws0]⟩ ⟨1, by simp [DataW.trod, Tryd.underlying3, wr0]⟩ ⟨1, by simp [DataW.trod, Tryd.underlying3, wm0]⟩
  obtain ⟨a1, rfl, rfl, rfl, f1⟩ := open_int Tryd.underlying3 (hval 1 3 v1 rfl rfl) h1
  obtain ⟨a2, rfl, rfl, rfl, f2⟩ := open_int Tryd.underlying3 (hval 2 3 v2 rfl rfl) h2
  clear hA0 hval0
  refine (superModes_walk W T ⟨P0, S0, R0, M0⟩ ⟨bounds_i64 wp0, bounds_i64 ws0, bounds_i64 wr0, bounds_i64 wm0⟩ a1 f1 a2 f2).mono fun e W' ⟨he, bel⟩ => ?_
  subst he
  exact ⟨_, rfl, _, _, _, [], _, [], hW', trodAll_mk1 (shut_bool Tryd.underlying4 _), (trodAll_cons_mk (sg0 _ _) (trodAll_cons_mk (shut_int Tryd.underlying3 f1) (trodAll_cons_mk (shut_int Tryd.underlying3 f2) trodAll_mk0))), rfl, bel.frame _, fun h => by cases h⟩

theorem over : Rows.superModesRow.holds Tryd.pinned (OpenSpec.ofChange Rows.superModesSpec) :=
  OpenClaim.holds_of_wide 5 Tryd.f5 rfl rfl rfl rfl rfl rfl rfl ⟨rfl, rfl, rfl, rfl, rfl⟩ rfl rfl rfl rfl rfl (by kernel_rfl) Tryd.func5 (by kernel_rfl)
    (of_decide_eq_true (by kernel_rfl)) (by unfold Func.isWrapper; first | (rw [if_pos (by decide +kernel)]; kernel_rfl) | (rw [if_neg (by decide +kernel)]; exact ⟨rfl, rfl⟩))
    (fun os started H enc _ => lifted os started H enc)
end Go.Proofs.YtfglbhdfdpnnfaaDoor.superModes
namespace Go.Proofs.YtfglbhdfdpnnfaaDoor

theorem superModes_holds : Rows.SuperModesCardSaid :=
  Claim7.holds_tied_plain_at .later [] [.data] true (true, "a65fffb7d1358bfc24ba5eb5a1d3a8c4d40f07a062209ba440c20d24d25119cb") false superModes.over (fun _ h => by cases h) (by kernel_rfl) (fun _ h => by cases h) superModes_row_tie rfl ⟨rfl, rfl⟩ (by kernel_rfl) rfl
    (fun f fn hf hfn => by
      obtain rfl : f = 5 := Option.some.inj ((show Tryd.prog.funcNamed "joist/joistlaw17.SuperModes" = some 5 by kernel_rfl).symm.trans hf) |>.symm
      obtain rfl : fn = Tryd.f5 := (Option.some.inj (Tryd.func5.symm.trans hfn)).symm
      exact ⟨by kernel_rfl, fun j t ht => by
        rw [Tryd.params5] at ht
        have hm : t ∈ [23, 3] := by have := Array.mem_of_getElem? ht; simpa using this
        have hall : ([23, 3].all fun u => !Tryd.prog.wantsStandIn u) = true := by kernel_rfl
        exact (show Tryd.prog.wantsStandIn t = false by simpa using List.all_eq_true.1 hall t hm)⟩)
    (by kernel_rfl)
#print axioms superModes_holds
end Go.Proofs.YtfglbhdfdpnnfaaDoor
