/- 'PagesFills' walked: a free page takes as many objects of a class as a slab has cells, one behind another. -/
import Derived.Test.YtlghhhhgfnnjgaaDoorPagAid
import Derived.Test.YtlghhhhgfnnjgaaDoorFillM
namespace Go.Proofs.YtlghhhhgfnnjgaaDoor
set_option maxRecDepth 100000
open Go.RowKit
set_option linter.unusedVariables false
set_option linter.unusedSimpArgs false
set_option maxRecDepth 100000

theorem own_single {w : World} {B : Nat} {bo : Option Addr} {m c : Nat} {x : Int} (h : Own .i64 3 B w bo m c [x]) :
    m = 1 ∧ ∃ g, bo = some ⟨g, 0, none⟩ ∧ w.cell? ⟨g, 0, none⟩ = some (.int .i64 x) := by
  obtain rfl : 1 = m := h.len
  obtain ⟨g, c', e⟩ := own_shape h.row (by omega)
  simp only [Value.slice.injEq] at e
  obtain ⟨rfl, _, rfl⟩ := e
  exact ⟨rfl, g, rfl, h.at 0 (by omega) rfl⟩

set_option maxHeartbeats 1000000 in
theorem pagesFills_walk (w : World) (T : Cws w) (z : Int) (hw0 : (Lit.int .i64 z).wf = true) :
    Calls Tryd.prog 8 #[.int .i64 z] w fun e w' => e = .returned (.bool true) ∧ Below w.heap.size w w' := by
  have hzb := bounds_i64 hw0
  have cS := smallG_any w T
  have cO := fun w' (T' : Cws w') => of_any z w' T'
  clear hw0
  by_cases hz : 1 ≤ z ∧ z ≤ 120
  · simp only [cl_b hz] at cO
    have hcc := clN_lt z
    have cC := fun w' (T' : Cws w') => cells_any (clN z) w' T'
    simp only [wdE_in (c := (clN z : Int)) ⟨by omega, by omega⟩] at cC
    obtain ⟨_, _, m1, m2, _, _⟩ := cls_in (c := (clN z : Int)) ⟨by omega, by omega⟩
    have cL := fun (k : Nat) w' (T' : Cws w') => cell_any (clN z) k w' T'
    have cP := fun (i : Nat) a c w' (T' : Cws w') (h' : Ps w' a i c (fiL z i)) (hi : i ≤ 20) => place_ps 1 a i c (fiL z i) z w' T' h' (by omega)
    have cK := fun (i : Nat) a c w' (T' : Cws w') (h' : Ps w' a i c (fiL z i)) (hi : i ≤ 20) => kinds_ps 1 a i c (fiL z i) w' T' h' (by omega)
    have cM := fun (i : Nat) a c w' (T' : Cws w') (h' : Ps w' a i c (fiL z i)) (hi : i ≤ 20) => mates_ps 1 (by omega) a i c (fiL z i) 0 ⟨by omega, by omega⟩ w' T' h' (by omega)
    have HPL : Hid (∀ i : Nat, (i : Int) < ceN (clN z) → pcN 1 (fiL z i) z = ctN (clN z) i ∧ pcB 1 (fiL z i) z = true) := hid (fun i hi => fi_place hz hi)
    have HCT : Hid (∀ i : Nat, (i : Int) < ceN (clN z) → ctE (clN z) i = 0 ∧ 4 ≤ ctN (clN z) i ∧ ctN (clN z) i < 32) := hid (fun i hi => ⟨(ct_t (ct_ok hi)).2, ctN_in (ct_ok hi)⟩)
    have HFU : Hid (∀ i : Nat, (i : Int) = ceN (clN z) → (pcN 1 (fiL z i) z = 0 ∧ pcB 1 (fiL z i) z = false) ∧ (rtO 1 (fiL z i) = true ∧ kzL 1 (fiL z i) = [(clN z : Int)]) ∧ (mtL 1 (fiL z i) 0).length = i) := hid (fun i hi => ⟨fi_full hz hi, fi_kinds hz hi, fi_mates hz hi⟩)
    have HSU : Hid (∀ i, fiL z (i + 1) = fiL z i ++ [⟨ctN (clN z) i, z⟩]) := hid (fi_succ z)
    obtain ⟨M, hM⟩ : ∃ M : Nat, ceN (clN z) = M := ⟨(ceN (clN z)).toNat, by omega⟩
    simp only [hM] at cC
    rw [hM] at HPL HCT HFU m1 m2
    generalize clN z = cc at *
    clear hM hz
    go_enter Tryd.func8, Tryd.ntmps8
    go_wp2_with (first
      | (go_at_call 9; with_reducible refine cS.mono ?_; rintro e w1 ⟨rfl, hb1⟩; have T1 := T.kept hb1)
      | (go_at_call 23; with_reducible refine (cO _ T1).mono ?_; rintro e w' ⟨rfl, rfl⟩)
      | (go_at_call 25; with_reducible refine (cC _ T1).mono ?_; rintro e w' ⟨rfl, rfl⟩))
    clear cS cO cC
    go_loopw [8, 9] (fun s8 s9 wr => ∃ (i : Nat) (bo : Option Addr) (c : Nat), i ≤ M ∧ s8 = .slice bo i c ∧ s9 = .int .i64 i ∧ Hid (OwJ w.heap.size wr bo i c (fiL z i)) ∧ Below w.heap.size w wr) (fun _ s9 _ => M - (intOf s9).toNat)
    case atStart => exact ⟨0, none, 0, Nat.zero_le _, rfl, rfl, hid (owJ_nil _ _), hb1⟩
    case round =>
      clear hb1 T1
      obtain ⟨i, bo, c, hi, rfl, rfl, HO, hb⟩ := hrel
      have TW := T.kept hb
      by_cases hlt : i < M
      · have hii : (i : Int) < (M : Int) := by omega
        have hi20 : (i : Int) < 20 := by omega
        have c1 := cP i bo c _ TW HO.out.ps (by omega)
        rw [(HPL.out i hii).1, (HPL.out i hii).2] at c1
        have c2 := fun w' T' => cL i w' T'
        simp only [(HCT.out i hii).1] at c2
        obtain ⟨_, o1, o2⟩ := HCT.out i hii
        have HS := hid (HSU.out i)
        generalize ctN cc i = off at *
        have hrg : RgP ⟨off, z⟩ := ⟨by unfold Rg; show _ ≤ off ∧ off ≤ _; omega, hzb⟩
        have h16 : (i + 1) * 16 ≤ 140737488355328 := by omega
        clear HPL HCT HFU HSU cP cK cM cL
        go_wp2_with (first
          | (go_at_call 12; with_reducible refine c1.mono ?_; rintro e w2 ⟨rfl, hb2⟩; have hb2a := next hb hb2; have T2 := TW.kept hb2; have hbB := hb2a.alloc hb2a.size (.cells #[.int .i64 off, .int .i64 z] 39); have hoB := (HO.out.below hb2).below ((Below.refl _ w2).alloc (Nat.le_refl _) (.cells #[.int .i64 off, .int .i64 z] 39)); have HPO := hid (ps_object w2 w2.heap.size ⟨off, z⟩ rfl hrg); have hszB := hbB.size)
          | (go_at_call 26; with_reducible refine (c2 _ T2).mono ?_; rintro e w' ⟨rfl, rfl⟩)
          | (at_builtin; refine append_js rfl (.tmp 68) (.tmp 72) rfl w.heap.size _ i _ rfl hoB.row hoB.rg (some ⟨w2.heap.size, 0, none⟩) 1 1 [⟨off, z⟩] rfl HPO.out h16 hszB ?_; intro bj cj w5 ho5 hg5; have hb5 : Below w.heap.size w w5 := hbB.grown hg5 hszB (fun j hj => (hoB.row.lt j hj).1); have HO5 := hid ho5; clear ho5 hg5))
        go_roundw
        case rel => exact ⟨i + 1, bj, cj, by omega, rfl, by go_num, by rw [HS.out]; exact HO5, hb5⟩
        case measure => simp [intOf]; omega
      · obtain rfl : i = M := by omega
        obtain ⟨⟨q1, q2⟩, ⟨q3, q4⟩, q5⟩ := HFU.out i rfl
        have c1 := cP i bo c _ TW HO.out.ps (by omega)
        rw [q1, q2] at c1
        have c2 := fun w' T' h' => cK i bo c w' T' h' (by omega)
        simp only [q3, q4] at c2
        have c3 := fun w' T' h' => cM i bo c w' T' h' (by omega)
        have HQ5 := hid q5
        have HPS := hid (fun w' hb' => HO.out.ps.below (w' := w') hb')
        generalize mtL 1 (fiL z i) 0 = mt at *
        have hnn : ¬ ((i : Int) < (i : Int)) := by omega
        clear HPL HCT HFU HSU cP cK cM cL q1 q2 q3 q4 q5 HO
        go_wp2_with (first
          | (go_at_call 12; with_reducible refine c1.mono ?_; rintro e w2 ⟨rfl, hb2⟩; have hb2a := next hb hb2; have T2 := TW.kept hb2)
          | (go_at_call 10; with_reducible refine (c2 _ T2 (HPS.out _ hb2)).mono ?_; rintro e w3 ⟨b3, m3, c3', rfl, ho3, hb3⟩; obtain ⟨rfl, g, rfl, r0⟩ := own_single ho3; clear ho3; have hb3a := next hb2a hb3; have T3 := T2.kept hb3; have hb23 := next hb2 hb3)
          | (go_at_call 14; with_reducible refine (c3 _ T3 (HPS.out _ hb23)).mono ?_; rintro e w4 ⟨b4, m4, c4, rfl, ho4, hb4⟩; have hm4 := ho4.len; rw [HQ5.out] at hm4; subst hm4; clear ho4; have hb4a := next hb3a hb4))
        go_ret
        exact ⟨rfl, hb4a⟩
  · simp only [(cl_f hz).1, (cl_f hz).2] at cO
    have cC := fun w' (T' : Cws w') => cells_any 0 w' T'
    simp only [show ceN 0 = 14 by decide, show wdE 0 = 0 by decide] at cC
    clear hz
    go_enter Tryd.func8, Tryd.ntmps8
    go_wp2_with (first
      | (go_at_call 9; with_reducible refine cS.mono ?_; rintro e w1 ⟨rfl, hb1⟩; have T1 := T.kept hb1)
      | (go_at_call 23; with_reducible refine (cO _ T1).mono ?_; rintro e w' ⟨rfl, rfl⟩)
      | (go_at_call 25; with_reducible refine (cC _ T1).mono ?_; rintro e w' ⟨rfl, rfl⟩))
    go_ret
    exact ⟨rfl, hb1⟩
end Go.Proofs.YtlghhhhgfnnjgaaDoor
