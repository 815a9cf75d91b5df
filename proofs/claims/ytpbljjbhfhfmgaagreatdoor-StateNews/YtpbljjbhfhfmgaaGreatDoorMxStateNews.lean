/- StateNews: these texts, one behind another. -/
import Derived.Test.YtpbljjbhfhfmgaaGreatDoorMxStateNewsWalk
import Derived.Test.YtpbljjbhfhfmgaaGreatDoorRows
import Derived.Test.YtpbljjbhfhfmgaaGreatDoorMxOpen
import Derived.Lib.SmallJoins
import Derived.ProofKit
import Derived.OpenShut
import Derived.ShutString
import Derived.ChangeOld
import Derived.Below
import Derived.SizedLaws
import Derived.Test.YtpbljjbhfhfmgaaGreatDoorCards
import Derived.Test.YtpbljjbhfhfmgaaGreatDoorTie
import Derived.LaidMore
import Derived.Lay
import Derived.SevenTiedAt
import Derived.Stop.Joined
import Derived.Test.YtpbljjbhfhfmgaaGreatDoorMxClsA
import Derived.Stop.LaidErr
import Derived.Lib.LaidTab
/- 'StateNews': for every input the law returns true and leaves its arguments as they were; no condition beyond the statement's own. -/
namespace Go.Proofs.YtpbljjbhfhfmgaaGreatDoor.stateNews
open Go.ChangeShapes Go.WideShapes Go.ChangeAt Go.RowKit
open Go.ChangeMaps (open_string shut_string)
open Go.Joins
set_option linter.unusedVariables false

theorem own : ownKnob Tryz.prog.godebug = none := by kernel_rfl
theorem laidOut : laidOutB Tryz.prog = true := by kernel_rfl

theorem laid_tab : (Rows.laid_joist_class_cellWords : DataW Unit) = Lib.tabData .i64 szL := by kernel_rfl
theorem tab_of {W : World} (h : laidMet Tryz.prog [("joist/class.cellWords", Rows.laid_joist_class_cellWords)] W) : Cws W := by
  rw [laid_tab] at h
  have hT := Lib.tabIs_of_head (g := 0) (by kernel_rfl) (by kernel_rfl) Tryz.underlying168 Tryz.underlying3 (by kernel_rfl) (by kernel_rfl) h
  have hc : ∀ i, i < 6 → W.cell? ⟨0, i, none⟩ = some (.int .i64 (szL.getD i 0)) := fun i hi => hT.cell (by kernel_rfl) i (by simpa [szL] using hi)
  exact ⟨World.block_lt_of_cell? W _ (hc 0 (by omega)), hc⟩

set_option maxRecDepth 100000 in
theorem lifted (os : Os) (started : os.Started) (H : Type) (enc : TypeId × Value → H) :
    ReturnsInHanded {} Tryz.checked os 4 .any (fun w args => (Rows.stateNewsSpec.pre enc Tryz.prog Tryz.f4 Rows.stateNewsRow.domain false w args ∧ laidMetH Tryz.prog Rows.stateNewsRow.laid w) ∧ sizedMet enc Tryz.prog Tryz.f4 (OpenSpec.ofChange Rows.stateNewsSpec) false w args) (Rows.stateNewsSpec.post enc Tryz.prog Tryz.f4 false true false false) := by
  refine returnsInHanded_of_change_and (C := Tryz.checked) (X := fun w _ => laidMetH Tryz.prog Rows.stateNewsRow.laid w) (fun _ _ _ hh h => h.of_heap hh) own started (by kernel_rfl) Tryz.func4
    (ChangeSpec.witness_shaped (enc := enc) (C := Tryz.checked) (os := os) (X := fun w _ => laidMetH Tryz.prog Rows.stateNewsRow.laid w) false (World.laidAll Tryz.prog os Rows.stateNewsRow.laid) #[.agg #[.int .i64 0, .int .i64 0, .int .i64 0, .int .i64 0], .int .i64 0] 8 (World.laidAll_os _ _ _)
      (World.shaped_of_ZipB (by kernel_rfl) (by kernel_rfl)) (by kernel_rfl) (by kernel_rfl) (by kernel_rfl)
      (by rw [MakeChecks.laidMetH_plain _ _ _ (by kernel_rfl)]; exact laidMet_laidAll _ (by kernel_rfl) (by kernel_rfl))) ?_
  intro W base args ds gs before hval0 hW _ hsz0 hX _
  have T : Cws W := by
    rw [MakeChecks.laidMetH_plain _ _ _ (by kernel_rfl)] at hX
    exact tab_of hX
  have hsz : (DataW.weightsEach Tryz.prog (Tryz.f4.params.toList ++ Rows.stateNewsSpec.plain.varTypes Tryz.prog) (ds ++ gs)).all (· ≤ reachBytes) = true := hsz0
  clear hsz0
  have hval : ∀ (j : Nat) t v, Tryz.f4.params[j]? = some t → args[j]? = some v → Value.okWide Tryz.prog W .any base t v := hval0
  have hW' := hW
  obtain ⟨p, q, hA0, hV, rfl, hfz, hnd⟩ := hW
  have hA : DataW.TrodAll enc Tryz.prog W 0 (fun _ => true) true Tryz.f4.params.toList args.toList ds p := hA0
  rw [Tryz.params4] at hA hval hsz
  obtain ⟨v0, vs0, d0, ds0, p0, q0, hargs, rfl, rfl, h0, r0⟩ := trodAll_cons hA
  obtain ⟨v1, vs1, d1, ds1, p1, q1, rfl, rfl, rfl, h1, r1⟩ := trodAll_cons r0
  obtain ⟨rfl, rfl, rfl⟩ := trodAll_nil r1
  obtain rfl : args = #[v0, v1] := by cases args; simp_all
  obtain ⟨rfl, rfl⟩ := trodVars_none hV
  obtain ⟨x0, y0, z0, k0, u0, t0, r0', l0', n0, rfl, rfl, rfl, hx0, hy0, hz0, hk0⟩ := open_agg4 Tryz.underlying23 (by kernel_rfl) (by kernel_rfl) (hval 0 23 v0 rfl rfl) h0
  obtain ⟨P0, ep0, rfl, wp0⟩ := DataW.trod_int Tryz.underlying3 hx0
  obtain ⟨S0, es0, rfl, ws0⟩ := DataW.trod_int Tryz.underlying3 hy0
  obtain ⟨R0, er0, rfl, wr0⟩ := DataW.trod_int Tryz.underlying3 hz0
  obtain ⟨M0, em0, rfl, wm0⟩ := DataW.trod_int Tryz.underlying3 hk0
  simp at ep0 es0 er0 em0
  subst ep0 es0 er0 em0
  have sg0 : ∀ (W' : World) (sp : Nat → Bool), DataW.Trod enc Tryz.prog W' 0 sp true 23 (.agg #[.int .i64 P0, .int .i64 S0, .int .i64 R0, .int .i64 M0]) (.agg [.lit (.int .i64 P0), .lit (.int .i64 S0), .lit (.int .i64 R0), .lit (.int .i64 M0)]) ([] ++ ([] ++ ([] ++ []))) := fun W' sp =>
    shut_agg4 (y0 := (.lit (.int .i64 P0), [])) (y1 := (.lit (.int .i64 S0), [])) (y2 := (.lit (.int .i64 R0), [])) (y3 := (.lit (.int .i64 M0), [])) Tryz.underlying23 (by kernel_rfl) (by kernel_rfl) ⟨1, by simp [DataW.trod, Tryz.underlying3, wp0]⟩ ⟨1, by simp [DataW.trod, Tryz.underlying3, ws0]⟩ ⟨1, by simp [DataW.trod, Tryz.underlying3, wr0]⟩ ⟨1, by simp [DataW.trod, Tryz.underlying3, wm0]⟩
  obtain ⟨a1, rfl, rfl, rfl, f1⟩ := open_int Tryz.underlying3 (hval 1 3 v1 rfl rfl) h1
  clear hA0 hval0
  refine (stateNews_walk W T ⟨P0, S0, R0, M0⟩ ⟨bounds_i64 wp0, bounds_i64 ws0, bounds_i64 wr0, bounds_i64 wm0⟩ a1 (bounds_i64 f1)).mono fun e W' ⟨he, bel⟩ => ?_
  subst he
  exact ⟨_, rfl, _, _, _, [], _, [], hW', trodAll_mk1 (shut_bool Tryz.underlying4 _), (trodAll_cons_mk (sg0 _ _) (trodAll_cons_mk (shut_int Tryz.underlying3 f1) trodAll_mk0)), rfl, bel.frame _, fun h => by cases h⟩

theorem over : Rows.stateNewsRow.holds Tryz.pinned (OpenSpec.ofChange Rows.stateNewsSpec) :=
  OpenClaim.holds_of_wide 4 Tryz.f4 rfl rfl rfl rfl rfl rfl rfl ⟨rfl, rfl, rfl, rfl, rfl⟩ rfl rfl rfl rfl rfl (by kernel_rfl) Tryz.func4 (by kernel_rfl)
    (of_decide_eq_true (by kernel_rfl)) (by unfold Func.isWrapper; first | (rw [if_pos (by decide +kernel)]; kernel_rfl) | (rw [if_neg (by decide +kernel)]; exact ⟨rfl, rfl⟩))
    (fun os started H enc _ => lifted os started H enc)
end Go.Proofs.YtpbljjbhfhfmgaaGreatDoor.stateNews
namespace Go.Proofs.YtpbljjbhfhfmgaaGreatDoor

theorem stateNews_holds : Rows.StateNewsCardSaid :=
  Claim7.holds_tied_plain_at .later [] [.data] true (true, "fee425edd35e9363a8fc0a5b85f3354806e5ecad38d836e2e50f70edd3829b63") false stateNews.over (fun _ h => by cases h) (by kernel_rfl) (fun _ h => by cases h) stateNews_row_tie rfl ⟨rfl, rfl⟩ (by kernel_rfl) rfl
    (fun f fn hf hfn => by
      obtain rfl : f = 4 := Option.some.inj ((show Tryz.prog.funcNamed "joist/joistlaw18.StateNews" = some 4 by kernel_rfl).symm.trans hf) |>.symm
      obtain rfl : fn = Tryz.f4 := (Option.some.inj (Tryz.func4.symm.trans hfn)).symm
      exact ⟨by kernel_rfl, fun j t ht => by
        rw [Tryz.params4] at ht
        have hm : t ∈ [23, 3] := by have := Array.mem_of_getElem? ht; simpa using this
        have hall : ([23, 3].all fun u => !Tryz.prog.wantsStandIn u) = true := by kernel_rfl
        exact (show Tryz.prog.wantsStandIn t = false by simpa using List.all_eq_true.1 hall t hm)⟩)
    (by kernel_rfl)
#print axioms stateNews_holds
end Go.Proofs.YtpbljjbhfhfmgaaGreatDoor
