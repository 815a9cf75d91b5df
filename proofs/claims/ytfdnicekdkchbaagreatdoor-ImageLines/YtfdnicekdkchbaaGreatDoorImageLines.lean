/- 'ImageLines': for every input the law returns true and leaves its arguments as they were; no condition beyond the statement's own. -/
import Derived.ShutString
import Derived.LaidMore
import Derived.Lay
import Derived.Stop.LaidErr
import Derived.Lib.LaidTab
import Derived.Test.YtfdnicekdkchbaaGreatDoorImageLinesWalk
import Derived.Test.YtfdnicekdkchbaaGreatDoorKimbz
import Derived.Test.YtfdnicekdkchbaaGreatDoorCards
import Derived.Test.YtfdnicekdkchbaaGreatDoorTie
namespace Go.Proofs.YtfdnicekdkchbaaGreatDoor.imageLines
open Go.ChangeShapes Go.WideShapes Go.ChangeAt Go.RowKit
open Go.ChangeMaps (open_string shut_string)
set_option linter.unusedVariables false
theorem own : ownKnob Tryz.prog.godebug = none := by kernel_rfl
theorem laidOut : laidOutB Tryz.prog = true := by kernel_rfl
theorem laid_tabC : (Rows.laid_joist_class_cellWords : DataW Unit) = Lib.tabData .i64 szL := by kernel_rfl
theorem tabC_of {W : World} (h : laidMet Tryz.prog [("joist/class.cellWords", Rows.laid_joist_class_cellWords), ("unicode/utf8.acceptRanges", Rows.laid_unicode_utf8_acceptRanges), ("joist/tags.mostWords", Rows.laid_joist_tags_mostWords), ("unicode/utf8.first", Rows.laid_unicode_utf8_first)] W) : Cws W := by
  rw [laid_tabC] at h
  have hT := Lib.tabIs_of_head (g := 1) (by kernel_rfl) (by kernel_rfl) Tryz.underlying281 Tryz.underlying3 (by kernel_rfl) (by kernel_rfl) h
  have hc : ∀ i, i < 6 → W.cell? ⟨1, i, none⟩ = some (.int .i64 (szL.getD i 0)) := fun i hi => hT.cell (by kernel_rfl) i (by simpa [szL] using hi)
  exact ⟨World.block_lt_of_cell? W _ (hc 0 (by omega)), hc⟩
theorem laid_tabM : (Rows.laid_joist_tags_mostWords : DataW Unit) = Lib.tabData .i64 mostL := by kernel_rfl
theorem tabM_of {W : World} (h : laidMet Tryz.prog [("joist/tags.mostWords", Rows.laid_joist_tags_mostWords), ("unicode/utf8.first", Rows.laid_unicode_utf8_first)] W) : Mst W := by
  rw [laid_tabM] at h
  have hT := Lib.tabIs_of_head (g := 0) (by kernel_rfl) (by kernel_rfl) Tryz.underlying281 Tryz.underlying3 (by kernel_rfl) (by kernel_rfl) h
  have hc : ∀ i, i < 6 → W.cell? ⟨0, i, none⟩ = some (.int .i64 (mostL.getD i 0)) := fun i hi => hT.cell (by kernel_rfl) i (by simpa [mostL] using hi)
  exact ⟨World.block_lt_of_cell? W _ (hc 0 (by omega)), hc⟩
set_option maxRecDepth 100000 in
theorem lifted (os : Os) (started : os.Started) (H : Type) (enc : TypeId × Value → H) :
    ReturnsInHanded {} Tryz.checked os 7 .any (fun w args => (Rows.imageLinesSpec.pre enc Tryz.prog Tryz.f7 Rows.imageLinesRow.domain false w args ∧ laidMetH Tryz.prog Rows.imageLinesRow.laid w) ∧ sizedMet enc Tryz.prog Tryz.f7 (OpenSpec.ofChange Rows.imageLinesSpec) false w args) (Rows.imageLinesSpec.post enc Tryz.prog Tryz.f7 false true false false) := by
  refine returnsInHanded_of_change_and (C := Tryz.checked) (X := fun w _ => laidMetH Tryz.prog Rows.imageLinesRow.laid w) (fun _ _ _ hh h => h.of_heap hh) own started (by kernel_rfl) Tryz.func7
    (ChangeSpec.witness_shaped (enc := enc) (C := Tryz.checked) (os := os) (X := fun w _ => laidMetH Tryz.prog Rows.imageLinesRow.laid w) false (World.laidAll Tryz.prog os Rows.imageLinesRow.laid) #[.agg #[.int .i64 0, .int .i64 0, .int .i64 0, .int .i64 0, .int .i64 0, .int .i64 0, .slice none 0 0, .slice none 0 0, .slice none 0 0], .slice none 0 0] 8 (World.laidAll_os _ _ _)
      (World.shaped_of_ZipB (by kernel_rfl) (by kernel_rfl)) (by kernel_rfl) (by kernel_rfl) (by kernel_rfl)
      (by rw [MakeChecks.laidMetH_plain _ _ _ (by kernel_rfl)]; exact laidMet_laidAll _ (by kernel_rfl) (by kernel_rfl))) ?_
  intro W base args ds gs before hval0 hW _ hsz0 hX _
  have T : Cws W ∧ Mst W := by
    rw [MakeChecks.laidMetH_plain _ _ _ (by kernel_rfl)] at hX
    exact ⟨tabC_of hX, tabM_of hX.tail.tail⟩
  have hsz : (DataW.weightsEach Tryz.prog (Tryz.f7.params.toList ++ Rows.imageLinesSpec.plain.varTypes Tryz.prog) (ds ++ gs)).all (· ≤ reachBytes) = true := hsz0
  clear hsz0
  have hval : ∀ (j : Nat) t v, Tryz.f7.params[j]? = some t → args[j]? = some v → Value.okWide Tryz.prog W .any base t v := hval0
  have hW' := hW
  obtain ⟨p, q, hA0, hV, rfl, hfz, hnd⟩ := hW
  have hA : DataW.TrodAll enc Tryz.prog W 0 (fun _ => true) true Tryz.f7.params.toList args.toList ds p := hA0
  rw [Tryz.params7] at hA hval hsz
  obtain ⟨v0, vs0, d0, ds0, p0, q0, hargs, rfl, rfl, h0, r0⟩ := trodAll_cons hA
  obtain ⟨v1, vs1, d1, ds1, p1, q1, rfl, rfl, rfl, h1, r1⟩ := trodAll_cons r0
  obtain ⟨rfl, rfl, rfl⟩ := trodAll_nil r1
  obtain rfl : args = #[v0, v1] := by cases args; simp_all
  obtain ⟨rfl, rfl⟩ := trodVars_none hV
  have lt0 : ∀ x ∈ p0, x.block < W.heap.size := by obtain ⟨m, hm⟩ := h0; exact DataW.trod_lt m _ _ _ hm
  obtain ⟨vv0, s0, rfl, hs0, ra0, rb0, rc0⟩ := open_stv (hval 0 28 v0 rfl rfl) h0
  obtain ⟨a1, len1, cap1, rfl⟩ := okWide_slice Tryz.underlying32 (hval 1 32 v1 rfl rfl)
  have lt1 : ∀ x ∈ p1, x.block < W.heap.size := by obtain ⟨m, hm⟩ := h1; exact DataW.trod_lt m _ _ _ hm
  obtain ⟨z1, s1, f1, c1⟩ := open_row (by' := 1) Tryz.underlying32 Tryz.underlying5 (by kernel_rfl) (by kernel_rfl) h1 hsz (j := 1) rfl rfl
  clear hA0 hval0
  refine (imageLines_walk W T.1 T.2 vv0 s0 hs0 ra0 rb0 rc0 a1 len1 cap1 z1 s1 f1 c1).mono fun e W' ⟨he, bel⟩ => ?_
  subst he
  exact ⟨_, rfl, _, _, _, [], _, [], hW', trodAll_mk1 (shut_bool Tryz.underlying4 _), (trodAll_cons_mk (Below.trod laidOut (by kernel_rfl) (of_decide_eq_true (by kernel_rfl)) h0 bel lt0) (trodAll_cons_mk (Below.trod laidOut (by kernel_rfl) (of_decide_eq_true (by kernel_rfl)) h1 bel lt1) trodAll_mk0)), rfl, bel.frame _, fun h => by cases h⟩
theorem over : Rows.imageLinesRow.holds Tryz.pinned (OpenSpec.ofChange Rows.imageLinesSpec) :=
  OpenClaim.holds_of_wide 7 Tryz.f7 rfl rfl rfl rfl rfl rfl rfl ⟨rfl, rfl, rfl, rfl, rfl⟩ rfl rfl rfl rfl rfl (by kernel_rfl) Tryz.func7 (by kernel_rfl)
    (of_decide_eq_true (by kernel_rfl)) (by unfold Func.isWrapper; first | (rw [if_pos (by decide +kernel)]; kernel_rfl) | (rw [if_neg (by decide +kernel)]; exact ⟨rfl, rfl⟩))
    (fun os started H enc _ => lifted os started H enc)
end Go.Proofs.YtfdnicekdkchbaaGreatDoor.imageLines
namespace Go.Proofs.YtfdnicekdkchbaaGreatDoor
theorem imageLines_holds : Rows.ImageLinesCardSaid :=
  Claim7.holds_tied_plain_at .later [] [.data, .data, .data, .pinned] true (true, "428a6109fd3c11a4f9d9cebadbcd4d29215aea16052ad775f9c04bf47a80122a") false imageLines.over (fun _ h => by cases h) (by kernel_rfl) (fun _ h => by cases h) imageLines_row_tie rfl ⟨rfl, rfl⟩ (by kernel_rfl) rfl
    (fun f fn hf hfn => by
      obtain rfl : f = 7 := Option.some.inj ((show Tryz.prog.funcNamed "joist/joistlaw19.ImageLines" = some 7 by kernel_rfl).symm.trans hf) |>.symm
      obtain rfl : fn = Tryz.f7 := (Option.some.inj (Tryz.func7.symm.trans hfn)).symm
      exact ⟨by kernel_rfl, fun j t ht => by
        rw [Tryz.params7] at ht
        have hm : t ∈ [28, 32] := by have := Array.mem_of_getElem? ht; simpa using this
        have hall : ([28, 32].all fun u => !Tryz.prog.wantsStandIn u) = true := by kernel_rfl
        exact (show Tryz.prog.wantsStandIn t = false by simpa using List.all_eq_true.1 hall t hm)⟩)
    (by kernel_rfl)
#print axioms imageLines_holds
end Go.Proofs.YtfdnicekdkchbaaGreatDoor
