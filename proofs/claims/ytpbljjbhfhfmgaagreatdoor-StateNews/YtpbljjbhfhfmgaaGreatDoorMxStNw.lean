/- StNw: these texts, one behind another. -/
import Derived.Test.YtpbljjbhfhfmgaaGreatDoorMxStC
import Derived.Test.YtpbljjbhfhfmgaaGreatDoorMxRefRootA
import Derived.Test.YtpbljjbhfhfmgaaGreatDoorMxStR
import Derived.Test.YtpbljjbhfhfmgaaGreatDoorMxStQ
/- What a new state's other calls answer: it is right, has no live slot, its copy is the same. -/
namespace Go.Proofs.YtpbljjbhfhfmgaaGreatDoor
set_option maxRecDepth 100000
open Go.RowKit
set_option linter.unusedVariables false
set_option linter.unusedSimpArgs false
set_option maxRecDepth 100000

theorem samS_self (x : Stt) : samS x x = true := by unfold samS; rw [samB_t rfl, samR_t rfl, samD_t rfl]; simp
theorem da_rep (n i : Nat) : da (List.replicate n ([] : List Int)) i = [] := by
  simp only [da, List.getD, List.getElem?_replicate]
  split <;> rfl
theorem nw_small {s : Shp} {m : Int} (hok : NwOk s m) {v : StV} {w : World} (h : Sta w v (nwS s m)) : v.sn ≤ 32 ∧ v.rn ≤ 8 ∧ v.tn ≤ 32 := by
  obtain ⟨⟨_, ⟨_, h3, _⟩, ⟨_, h6, _⟩, _, _⟩, _⟩ := hok
  have e1 := h.s.len
  have e2 := h.r.len
  have e3 := h.d.len
  simp only [nwS, List.length_replicate] at e1 e2 e3
  omega
theorem nw_calls {s : Shp} {m : Int} (hok : NwOk s m) {v : StV} {w : World} (T : Cws w) (h : Sta w v (nwS s m)) :
    Calls Tryz.prog 18 #[.agg (stC v (nwS s m))] w (fun e w' => e = .returned (.bool true) ∧ Below w.heap.size w w') ∧
    Calls Tryz.prog 21 #[.agg (stC v (nwS s m))] w (fun e w' => e = .returned (.int .i64 0) ∧ Below w.heap.size w w') ∧
    Calls Tryz.prog 10 #[.agg (stC v (nwS s m))] w (fun e w' => ∃ v', e = .returned (.agg (stC v' (nwS s m))) ∧ Sta w' v' (nwS s m) ∧ Below w.heap.size w w') := by
  obtain ⟨n1, n2, n3⟩ := nw_small hok h
  obtain ⟨hr, hl⟩ := nw_right hok
  refine ⟨?_, ?_, ?_⟩
  · have := rightSt_any v _ w T h (by omega) (by omega)
    rw [show stB (nwS s m) = true from decide_eq_true hr] at this
    exact this
  · have := live_any v _ w h (by omega)
    rw [hl] at this
    exact this
  · refine (copyS_any v _ w h (by omega) (by omega) (by omega) (fun i hi => ?_) (fun i hi => ?_)).mono ?_
    · have : ra (nwS s m).rt i = Rt.z := ra_rep _ _
      rw [this]
      decide
    · have e1 := (h.d.row i hi).len
      have : da (nwS s m).dt i = [] := da_rep _ _
      rw [this] at e1
      simp at e1
      omega
    · rintro e w' ⟨v', rfl, ho, hb⟩
      exact ⟨v', rfl, ⟨ho.s.tb, ho.r.rs, ho.d.rd (fun i hi => by rw [show da (nwS s m).dt i = [] from da_rep _ _]; intro z hz; cases hz), h.gh, h.gm, h.gb⟩, hb⟩
theorem nw_same {s : Shp} {m : Int} (hok : NwOk s m) {v u : StV} {w : World} (h : Sta w v (nwS s m)) (g : Sta w u (nwS s m)) :
    Calls Tryz.prog 20 #[.agg (stC v (nwS s m)), .agg (stC u (nwS s m))] w (fun e w' => e = .returned (.bool true) ∧ Below w.heap.size w w') ∧
    Calls Tryz.prog 11 #[.agg (stC v (nwS s m)), .agg (stC u (nwS s m))] w (fun e w' => e = .returned (.bool true) ∧ Below w.heap.size w w') := by
  obtain ⟨n1, n2, n3⟩ := nw_small hok h
  obtain ⟨k1, k2, k3⟩ := nw_small hok g
  have h1 := sameS_any v _ u _ w h g ⟨by omega, by omega, by omega, by omega, by omega⟩
  have h2 := rsameS_any v _ u _ w h g ⟨by omega, by omega, by omega, by omega, by omega⟩
  rw [samS_self] at h1 h2
  exact ⟨h1, h2⟩
end Go.Proofs.YtpbljjbhfhfmgaaGreatDoor
