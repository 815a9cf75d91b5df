/- 'GapsCovers' walked: gaps and used blocks are just all words, no two gaps lie side by side, each gap's size is a multiple of Unit. -/
import Derived.Test.YtjmhgcopaphdiaaCover
import Derived.Deep.QuietTactic
import Derived.BigQuiet
namespace Go.Proofs.Ytjmhgcopaphdiaa
set_option maxRecDepth 100000
open Go.RowKit
set_option linter.unusedVariables false
set_option linter.unusedSimpArgs false
set_option maxRecDepth 100000

set_option maxHeartbeats 4000000 in
theorem gapsCovers_walk (w : World) (f : Int) (hf : (Lit.int .i64 f).wf = true) (t : Int) (ht : (Lit.int .i64 t).wf = true) (ao : Option Addr) (n cap : Nat) (l : List Spn) (h : Ps w ao n cap l) (hc : cap * 16 ≤ 140737488351232) :
    Calls Try.prog 5 #[.int .i64 f, .int .i64 t, .slice ao n cap] w fun e w' => e = .returned (.bool true) ∧ Below w.heap.size w w' := by
  have hl := h.len
  have hroom := h.room
  have hn : n ≤ 9223372036854775807 := by omega
  clear hf ht
  have c2 : ∀ w', Below w.heap.size w w' → Calls Try.prog 12 #[.int .i64 f, .int .i64 t, .slice ao n cap] w' fun e w'' => ∃ bo m c, e = .returned (.tuple #[.slice bo m c, .int .i64 (gpE f t l)]) ∧ OwP w'.heap.size w'' bo m c (gpL f t l) ∧ Below w'.heap.size w' w'' := fun w' hb => gapsP_ps f t ao n cap l w' (h.below hb) hn
  have c3 : ∀ w', Below w.heap.size w w' → Calls Try.prog 17 #[.int .i64 f, .int .i64 t, .slice ao n cap] w' fun e w'' => e = .returned (.bool (rightPB f t l)) ∧ Below w'.heap.size w' w'' := fun w' hb => rightP_ps f t ao n cap l w' (h.below hb) hn
  by_cases hr : RightP f t l
  · obtain ⟨e1, e2⟩ := gp_t hr
    rw [e1, e2] at c2
    obtain ⟨g, hg⟩ : ∃ g, gapsL f t l = g := ⟨_, rfl⟩
    rw [hg] at c2
    have hE := hr.1
    have HGl : Hid (GLay f t g) := hid (by rw [← hg]; exact glay_gaps hE.2.2.2.2 l hr.2 hE.2.2.2.1)
    have HCv : Hid (∀ k : Int, cov (l ++ g) k = if f ≤ k ∧ k < t then 1 else 0) := fun k => by rw [cov_append, ← hg]; exact cov_all l hr.2 k
    have HFt : Hid (∀ i, i < n → FitP f t (pa l i)) := fun i hi => hr.fit (by omega)
    have hn512 : n ≤ 512 := by have := hr.len; omega
    have hgl : g.length ≤ 513 := by have := gaps_len t l f; rw [hg] at this; omega
    obtain ⟨a0, a1, a2, _, _⟩ := hE
    have u0 : ¬ f < 0 := by omega
    have u1 : ¬ 2048 < t := by omega
    obtain ⟨zs, hz, hzs, hzn, hzc⟩ := zero_val
    have HZ := hid hzc
    have HP := hid h
    clear hr hg e1 e2 c3 h hc hroom hzc
    go_enter Try.func5, Try.ntmps5
    go_wp2_with (first
      | (go_at_call 9; with_reducible refine (smallP_any _).mono ?_; rintro e w1 ⟨rfl, hb1⟩)
      | (go_at_call 12; with_reducible refine (c2 _ hb1).mono ?_; rintro e w2 ⟨bo, m, c, rfl, ho2, hb2⟩; have b2 := next hb1 hb2))
    have hml := ho2.len
    have b3 : Below w.heap.size w (w2.alloc (.cells zs 38)) := b2.alloc b2.size _
    have HC3 := hid (HZ.out w2)
    have HO3 := hid ((ho2.below ((Below.refl _ w2).alloc (Nat.le_refl _) (.cells zs 38))).mono hb1.size)
    have hbw : w.heap.size ≤ w2.heap.size := b2.size
    have hob : ∀ a, bo = some a → a.block < w2.heap.size := fun a e => by
      have := (ho2.row.lt a.block (by rw [e]; rfl)).2
      exact this
    have hw3s : w2.heap.size < (w2.alloc (.cells zs 38)).heap.size := by simp
    generalize w2.alloc (.cells zs 38) = w3 at *
    have HBw : Hid (∀ wr, Off (fun j => j = w2.heap.size) w3 wr → Below w.heap.size w wr) := fun wr ho => b3.trans (ho.below (fun j hj => by omega) b3.size)
    have HOw : Hid (∀ wr, Off (fun j => j = w2.heap.size) w3 wr → OwP w.heap.size wr bo m c g) := fun wr ho => HO3.out.off ho (fun a e he => by have := hob a e; omega)
    have HDq : Hid (∀ wr q, Off (fun j => j = w2.heap.size) w3 wr → Off (fun j => j = w2.heap.size) w3 (wr.drewN q)) := fun wr q ho => ho.drewN q
    have HCq : Hid (∀ wr q F, Cnt wr w2.heap.size F → Cnt (wr.drewN q) w2.heap.size F) := fun wr q F hc => hc.kept (below_drewN (Below.refl _ _) _)
    have HSt : Hid (∀ wr k v, Off (fun j => j = w2.heap.size) w3 wr → Off (fun j => j = w2.heap.size) w3 (wr.setCell ⟨w2.heap.size, k, none⟩ v)) := fun wr k v ho => ho.setCell ⟨w2.heap.size, k, none⟩ v rfl
    clear ho2 hb1 hb2 b2 HO3 hob hz hzs hzn HZ c2
    go_loopw [11] (fun s11 wr => ∃ i : Nat, i ≤ n ∧ s11 = .int .i64 i ∧ Hid (Cnt wr w2.heap.size (cvN (l.take i) 0 0)) ∧ Hid (Off (fun j => j = w2.heap.size) w3 wr)) (fun s11 _ => n - (intOf s11).toNat)
    case atStart => exact ⟨0, Nat.zero_le _, rfl, by rw [List.take_zero, cv_zero]; exact HC3, hid (Off.refl _ _)⟩
    case round =>
      obtain ⟨i, hi, rfl, HC, HO⟩ := hrel
      clear HC3
      by_cases hlt : i < n
      · obtain ⟨b, o, rfl, hbl, _⟩ := HP.out.here (by omega)
        obtain ⟨c0, c1⟩ := HP.out.at (HBw.out _ HO.out) hlt
        have hki : (i : Int) < (n : Int) := by omega
        have hfit := HFt.out i hlt
        have HA := hid (fun wx (ho : Off (fun j => j = w2.heap.size) w3 wx) => HP.out.at (HBw.out _ ho) hlt)
        have HTk : Hid (cvN (l.take i) (pa l i).pos (pa l i).fin = cvN (l.take (i + 1)) 0 0) := hid (by rw [take_pa (by omega)]; exact cv_turn _ _ _)
        have HBd : Hid (∀ k : Int, cov (l.take i) k ≤ 512) := fun k => Nat.le_trans (cov_le _ _) (by rw [List.length_take]; omega)
        generalize pa l i = s at *
        obtain ⟨p, z⟩ := s
        obtain ⟨k1, k2, k3, k4, k5⟩ := hfit
        simp only [Spn.fin] at c0 c1 k1 k2 k3 k4 k5 HA HTk
        obtain ⟨pn, rfl⟩ := Int.eq_ofNat_of_zero_le (show 0 ≤ p by omega)
        obtain ⟨zn, rfl⟩ := Int.eq_ofNat_of_zero_le (show 0 ≤ z by omega)
        have hS : Hid (cvN (l.take i) (pn : Int) (pn : Int) = cvN (l.take i) 0 0) := hid (by funext k; rw [cv_none, cv_none])
        have hpz : pn + zn ≤ 2048 := by omega
        generalize l.take i = A at *
        clear k2 k5
        go_wp2
        go_loopw [12] (fun s12 wx => ∃ j : Nat, pn ≤ j ∧ j ≤ pn + zn ∧ s12 = .int .i64 j ∧ Hid (Cnt wx w2.heap.size (cvN A (pn : Int) (j : Int))) ∧ Hid (Off (fun j => j = w2.heap.size) w3 wx)) (fun s12 _ => pn + zn - (intOf s12).toNat)
        case atStart => exact ⟨pn, Nat.le_refl _, by omega, rfl, by rw [hS.out]; exact HC, HO⟩
        case round =>
          obtain ⟨j, hj1, hj2, rfl, HCj, HOj⟩ := hrel
          clear HC HO c0 c1
          obtain ⟨c0, c1⟩ := HA.out _ HOj.out
          by_cases hjl : j < pn + zn
          · have hji : (j : Int) < (pn : Int) + (zn : Int) := by omega
            have hjd : decide ((j : Int) < (pn : Int) + (zn : Int)) = true := decide_eq_true hji
            have hjt : j < 2048 := by omega
            have hjt' : (j : Int) < 2048 := by omega
            obtain ⟨v, hv⟩ : ∃ v, cov A (j : Int) = v := ⟨_, rfl⟩
            have hv5 : v ≤ 512 := by rw [← hv]; exact HBd.out _
            have q0 := HCj.out.cell hjt
            have q1 := HCj.out.free j
            have HS : Hid (∀ q, Cnt ((wr.drewN q).setCell ⟨w2.heap.size, j, none⟩ (.int .i64 ((v : Int) + 1))) w2.heap.size (cvN A (pn : Int) ((j + 1 : Nat) : Int))) := fun q => by
              have := (HCq.out wr q _ HCj.out).step hjt (by omega)
              rwa [hv] at this
            rw [cv_here, hv] at q0
            clear hv HCj
            go_wp2
            go_quiet (fail)
            go_wp2
            go_roundw
            case rel => exact ⟨j + 1, by omega, by omega, by go_num, hid (HS.out _), hid (HSt.out _ _ _ (HDq.out _ _ HOj.out))⟩
            case measure => simp [intOf]; omega
          · obtain rfl : j = pn + zn := by omega
            have hji : ¬ (((pn + zn : Nat) : Int) < (pn : Int) + (zn : Int)) := by omega
            have hjd : decide (((pn + zn : Nat) : Int) < (pn : Int) + (zn : Int)) = false := decide_eq_false hji
            have HE : Hid (∀ q, Cnt (wr.drewN q) w2.heap.size (cvN (l.take (i + 1)) 0 0)) := fun q => by
              have := HCq.out wr q _ HCj.out
              rw [show ((pn + zn : Nat) : Int) = (pn : Int) + (zn : Int) by omega, HTk.out] at this
              exact this
            clear HCj
            go_wp2
            go_quiet (fail)
            go_wp2
            go_roundw
            case rel => exact ⟨i + 1, by omega, by go_num, hid (HE.out _), hid (HDq.out _ _ HOj.out)⟩
            case measure => simp [intOf]; omega
      · obtain rfl : i = n := by omega
        have HC2 : Hid (Cnt wr w2.heap.size (cvN (l ++ g.take 0) 0 0)) := hid (by
          have := HC.out
          rw [List.take_of_length_le (by omega)] at this
          rw [List.take_zero, List.append_nil]
          exact this)
        have HO2 := HO
        clear HC HO HP HFt
        go_wp2
        go_loopw [13] (fun s13 wr => ∃ k : Nat, k ≤ m ∧ s13 = .int .i64 k ∧ Hid (Cnt wr w2.heap.size (cvN (l ++ g.take k) 0 0)) ∧ Hid (Off (fun j => j = w2.heap.size) w3 wr)) (fun s13 _ => m - (intOf s13).toNat)
        case atStart => exact ⟨0, Nat.zero_le _, rfl, HC2, HO2⟩
        case round =>
          obtain ⟨k, hk, rfl, HC, HO⟩ := hrel
          clear HC2 HO2
          by_cases hlt2 : k < m
          · obtain ⟨gb, rfl, _, _⟩ := (HOw.out _ HO.out).shape (by omega)
            have hAt := fun wx (ho : Off (fun j => j = w2.heap.size) w3 wx) k' (hk' : k' < m) => (HOw.out wx ho).ps.at (Below.refl _ _) hk'
            simp only [Nat.zero_add] at hAt
            obtain ⟨c0, c1⟩ := hAt _ HO.out k hlt2
            have hki : (k : Int) < (m : Int) := by omega
            obtain ⟨k1, k3, k5, k4, k6⟩ := glay_at HGl.out (show k < g.length by omega)
            have HA := hid (fun wx (ho : Off (fun j => j = w2.heap.size) w3 wx) => hAt wx ho k hlt2)
            have HTk : Hid (cvN (l ++ g.take k) (pa g k).pos (pa g k).fin = cvN (l ++ g.take (k + 1)) 0 0) := hid (by rw [take_pa (by omega), ← List.append_assoc]; exact cv_turn _ _ _)
            have HBd : Hid (∀ x : Int, cov (l ++ g.take k) x ≤ 1025) := fun x => Nat.le_trans (cov_le _ _) (by rw [List.length_append, List.length_take]; omega)
            have HPr : Hid (0 < k → ∃ r : Spn, P2 wr gb ((k - 1) * 2) r ∧ r.fin < (pa g k).pos ∧ 0 ≤ r.pos ∧ 0 ≤ r.sz ∧ r.fin ≤ 2048) := fun hk0 => by
              obtain ⟨y1, y2, y3, y4, y5⟩ := glay_at HGl.out (show k - 1 < g.length by omega)
              have y6 := glay_next HGl.out (show (k - 1) + 1 < g.length by omega)
              rw [show k - 1 + 1 = k by omega] at y6
              refine ⟨pa g (k - 1), hAt _ HO.out (k - 1) (by omega), y6, by omega, by omega, by unfold Spn.fin; omega⟩
            generalize pa g k = s at *
            obtain ⟨p, z⟩ := s
            simp only [Spn.fin] at c0 c1 k1 k3 k4 k5 HA HTk HPr
            obtain ⟨pn, rfl⟩ := Int.eq_ofNat_of_zero_le (show 0 ≤ p by omega)
            obtain ⟨zn, rfl⟩ := Int.eq_ofNat_of_zero_le (show 0 ≤ z by omega)
            have hS : Hid (cvN (l ++ g.take k) (pn : Int) (pn : Int) = cvN (l ++ g.take k) 0 0) := hid (by funext x; rw [cv_none, cv_none])
            have hpz : pn + zn ≤ 2048 := by omega
            generalize l ++ g.take k = A at *
            have w1 : IntKind.i64.wrap (t - (pn : Int)) = t - (pn : Int) := IntWalk.i64_in _ ⟨by omega, by omega⟩
            have d1 : decide ((pn : Int) < f) = false := decide_eq_false (by omega)
            have d2 : decide ((zn : Int) < 4) = false := decide_eq_false (by omega)
            have d3 : ((zn : Int) % 4 != 0) = false := by simpa using k5
            have d4 : decide (t - (pn : Int) < (zn : Int)) = false := decide_eq_false (by omega)
            clear hAt k5 k6
            by_cases hk0 : k = 0
            · have d5 : decide ((0 : Int) < (k : Int)) = false := decide_eq_false (by omega)
              have d7 : decide (0 < k) = false := decide_eq_false (by omega)
              clear HPr hk0
              go_wp2
              go_quiet (fail)
              go_wp2
              clear c0 c1 d1 d2 d3 d4 d5 d7
              go_loopw [14] (fun s14 wx => ∃ j : Nat, pn ≤ j ∧ j ≤ pn + zn ∧ s14 = .int .i64 j ∧ Hid (Cnt wx w2.heap.size (cvN A (pn : Int) (j : Int))) ∧ Hid (Off (fun j => j = w2.heap.size) w3 wx)) (fun s14 _ => pn + zn - (intOf s14).toNat)
              case atStart => exact ⟨pn, Nat.le_refl _, by omega, rfl, by rw [hS.out]; exact hid (HCq.out _ _ _ HC.out), hid (HDq.out _ _ HO.out)⟩
              case round =>
                obtain ⟨j, hj1, hj2, rfl, HCj, HOj⟩ := hrel
                clear HC HO
                obtain ⟨c0, c1⟩ := HA.out _ HOj.out
                by_cases hjl : j < pn + zn
                · have hji : (j : Int) < (pn : Int) + (zn : Int) := by omega
                  have hjd : decide ((j : Int) < (pn : Int) + (zn : Int)) = true := decide_eq_true hji
                  have hjt : j < 2048 := by omega
                  have hjt' : (j : Int) < 2048 := by omega
                  obtain ⟨v, hv⟩ : ∃ v, cov A (j : Int) = v := ⟨_, rfl⟩
                  have hv5 : v ≤ 1025 := by rw [← hv]; exact HBd.out _
                  have q0 := HCj.out.cell hjt
                  have q1 := HCj.out.free j
                  have HS : Hid (∀ q, Cnt ((wr.drewN q).setCell ⟨w2.heap.size, j, none⟩ (.int .i64 ((v : Int) + 1))) w2.heap.size (cvN A (pn : Int) ((j + 1 : Nat) : Int))) := fun q => by
                    have := (HCq.out wr q _ HCj.out).step hjt (by omega)
                    rwa [hv] at this
                  rw [cv_here, hv] at q0
                  clear hv HCj
                  go_wp2
                  go_quiet (fail)
                  go_wp2
                  go_roundw
                  case rel => exact ⟨j + 1, by omega, by omega, by go_num, hid (HS.out _), hid (HSt.out _ _ _ (HDq.out _ _ HOj.out))⟩
                  case measure => simp [intOf]; omega
                · obtain rfl : j = pn + zn := by omega
                  have hji : ¬ (((pn + zn : Nat) : Int) < (pn : Int) + (zn : Int)) := by omega
                  have hjd : decide (((pn + zn : Nat) : Int) < (pn : Int) + (zn : Int)) = false := decide_eq_false hji
                  have HE : Hid (∀ q, Cnt (wr.drewN q) w2.heap.size (cvN (l ++ g.take (k + 1)) 0 0)) := fun q => by
                    have := HCq.out wr q _ HCj.out
                    rw [show ((pn + zn : Nat) : Int) = (pn : Int) + (zn : Int) by omega, HTk.out] at this
                    exact this
                  clear HCj
                  go_wp2
                  go_quiet (fail)
                  go_wp2
                  go_roundw
                  case rel => exact ⟨k + 1, by omega, by go_num, hid (HE.out _), hid (HDq.out _ _ HOj.out)⟩
                  case measure => simp [intOf]; omega
            · obtain ⟨r, hr2, hr3, hr4, hr5, hr6⟩ := HPr.out (by omega)
              have hpos : (0 : Int) < (k : Int) := by omega
              have d5 : decide ((0 : Int) < (k : Int)) = true := decide_eq_true hpos
              have d7 : decide (0 < k) = true := decide_eq_true (by omega)
              obtain ⟨k', hk'⟩ : ∃ k', k - 1 = k' := ⟨_, rfl⟩
              rw [hk'] at hr2
              obtain ⟨rp, rz⟩ := r
              obtain ⟨e0, e1⟩ := hr2
              simp only at e0 e1 hr3 hr4 hr5 hr6
              have hsub : (k : Int) - 1 = (k' : Int) := by omega
              have hki' : (k' : Int) < (m : Int) := by omega
              have w2' : IntKind.i64.wrap (rp + rz) = rp + rz := IntWalk.i64_in _ ⟨by omega, by omega⟩
              have d6 : decide ((pn : Int) ≤ rp + rz) = false := decide_eq_false (by omega)
              clear HPr hk' hk0
              go_wp2
              go_quiet (fail)
              go_wp2
              clear c0 c1 d1 d2 d3 d4 d5 d6 d7 e0 e1 hsub
              go_loopw [14] (fun s14 wx => ∃ j : Nat, pn ≤ j ∧ j ≤ pn + zn ∧ s14 = .int .i64 j ∧ Hid (Cnt wx w2.heap.size (cvN A (pn : Int) (j : Int))) ∧ Hid (Off (fun j => j = w2.heap.size) w3 wx)) (fun s14 _ => pn + zn - (intOf s14).toNat)
              case atStart => exact ⟨pn, Nat.le_refl _, by omega, rfl, by rw [hS.out]; exact hid (HCq.out _ _ _ HC.out), hid (HDq.out _ _ HO.out)⟩
              case round =>
                obtain ⟨j, hj1, hj2, rfl, HCj, HOj⟩ := hrel
                clear HC HO
                obtain ⟨c0, c1⟩ := HA.out _ HOj.out
                by_cases hjl : j < pn + zn
                · have hji : (j : Int) < (pn : Int) + (zn : Int) := by omega
                  have hjd : decide ((j : Int) < (pn : Int) + (zn : Int)) = true := decide_eq_true hji
                  have hjt : j < 2048 := by omega
                  have hjt' : (j : Int) < 2048 := by omega
                  obtain ⟨v, hv⟩ : ∃ v, cov A (j : Int) = v := ⟨_, rfl⟩
                  have hv5 : v ≤ 1025 := by rw [← hv]; exact HBd.out _
                  have q0 := HCj.out.cell hjt
                  have q1 := HCj.out.free j
                  have HS : Hid (∀ q, Cnt ((wr.drewN q).setCell ⟨w2.heap.size, j, none⟩ (.int .i64 ((v : Int) + 1))) w2.heap.size (cvN A (pn : Int) ((j + 1 : Nat) : Int))) := fun q => by
                    have := (HCq.out wr q _ HCj.out).step hjt (by omega)
                    rwa [hv] at this
                  rw [cv_here, hv] at q0
                  clear hv HCj
                  go_wp2
                  go_quiet (fail)
                  go_wp2
                  go_roundw
                  case rel => exact ⟨j + 1, by omega, by omega, by go_num, hid (HS.out _), hid (HSt.out _ _ _ (HDq.out _ _ HOj.out))⟩
                  case measure => simp [intOf]; omega
                · obtain rfl : j = pn + zn := by omega
                  have hji : ¬ (((pn + zn : Nat) : Int) < (pn : Int) + (zn : Int)) := by omega
                  have hjd : decide (((pn + zn : Nat) : Int) < (pn : Int) + (zn : Int)) = false := decide_eq_false hji
                  have HE : Hid (∀ q, Cnt (wr.drewN q) w2.heap.size (cvN (l ++ g.take (k + 1)) 0 0)) := fun q => by
                    have := HCq.out wr q _ HCj.out
                    rw [show ((pn + zn : Nat) : Int) = (pn : Int) + (zn : Int) by omega, HTk.out] at this
                    exact this
                  clear HCj
                  go_wp2
                  go_quiet (fail)
                  go_wp2
                  go_roundw
                  case rel => exact ⟨k + 1, by omega, by go_num, hid (HE.out _), hid (HDq.out _ _ HOj.out)⟩
                  case measure => simp [intOf]; omega
          · obtain rfl : k = m := by omega
            have HCf : Hid (Cnt wr w2.heap.size (fun x : Nat => (cov (l ++ g) (x : Int) : Int))) := hid (by
              have := HC.out
              rw [List.take_of_length_le (by omega)] at this
              have e : cvN (l ++ g) 0 0 = fun x : Nat => (cov (l ++ g) (x : Int) : Int) := by funext x; rw [cv_none]
              rwa [e] at this)
            have bE := HBw.out _ HO.out
            clear HC HO
            obtain ⟨wo, hwo⟩ : ∃ wo : World, wo = wr := ⟨_, rfl⟩
            rw [← hwo] at HCf bE ⊢
            clear hwo
            go_wp2
            go_loopw [15] (fun s15 wx => ∃ x : Nat, x ≤ 2048 ∧ s15 = .int .i64 x ∧ wo = wx) (fun s15 _ => 2048 - (intOf s15).toNat)
            case atStart => exact ⟨0, Nat.zero_le _, rfl, rfl⟩
            case round =>
              obtain ⟨x, hx, rfl, rfl⟩ := hrel
              by_cases hx2 : x < 2048
              · have hxi : (x : Int) < 2048 := by omega
                have q0 := HCf.out.cell hx2
                have hv := HCv.out (x : Int)
                by_cases hin : f ≤ (x : Int) ∧ (x : Int) < t
                · rw [if_pos hin] at hv
                  rw [hv] at q0
                  obtain ⟨i1, i2⟩ := hin
                  have i3 : ¬ ((x : Int) < f) := by omega
                  have i4 : ¬ (t ≤ (x : Int)) := by omega
                  clear hv HCf
                  go_wp2
                  go_roundw
                  case rel => exact ⟨x + 1, by omega, by go_num, trivial⟩
                  case measure => simp [intOf]; omega
                · rw [if_neg hin] at hv
                  rw [hv] at q0
                  clear hv HCf
                  by_cases i1 : f ≤ (x : Int)
                  · have i2 : ¬ ((x : Int) < t) := fun h => hin ⟨i1, h⟩
                    clear hin
                    go_wp2
                    go_roundw
                    case rel => exact ⟨x + 1, by omega, by go_num, trivial⟩
                    case measure => simp [intOf]; omega
                  · clear hin
                    go_wp2
                    go_roundw
                    case rel => exact ⟨x + 1, by omega, by go_num, trivial⟩
                    case measure => simp [intOf]; omega
              · obtain rfl : x = 2048 := by omega
                go_wp2
                go_ret
                exact ⟨rfl, bE⟩
  · obtain ⟨e1, e2⟩ := gp_f hr
    have c2' : ∀ w', Below w.heap.size w w' → Calls Try.prog 12 #[.int .i64 f, .int .i64 t, .slice ao n cap] w' fun e w'' => ∃ bo c, e = .returned (.tuple #[.slice bo 0 c, .int .i64 1]) ∧ Below w'.heap.size w' w'' := fun w' hb => (c2 w' hb).mono (by
      rintro e w'' ⟨bo, m, c, rfl, ho, hb'⟩
      rw [e1] at ho
      obtain rfl : 0 = m := ho.len
      rw [e2]
      exact ⟨bo, c, rfl, hb'⟩)
    rw [rightPB_f hr] at c3
    clear hr e1 e2 h hc hroom c2
    go_enter Try.func5, Try.ntmps5
    go_wp2_with (first
      | (go_at_call 9; with_reducible refine (smallP_any _).mono ?_; rintro e w1 ⟨rfl, hb1⟩)
      | (go_at_call 12; with_reducible refine (c2' _ hb1).mono ?_; rintro e w2 ⟨bo, c, rfl, hb2⟩; have b2 := next hb1 hb2)
      | (go_at_call 17; with_reducible refine (c3 _ b2).mono ?_; rintro e w3 ⟨rfl, hb3⟩; have b3 := next b2 hb3))
    go_ret
    exact ⟨rfl, b3⟩
end Go.Proofs.Ytjmhgcopaphdiaa
