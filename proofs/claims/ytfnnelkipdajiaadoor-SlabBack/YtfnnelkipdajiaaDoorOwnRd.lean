/- What is read, handed to joistlaw01.Owned. -/
import Derived.Test.YtfnnelkipdajiaaDoorMhA
import Derived.Test.YtfnnelkipdajiaaDoorRowsL
namespace Go.Proofs.YtfnnelkipdajiaaDoor
set_option maxRecDepth 100000
open Go.RowKit
set_option linter.unusedVariables false
set_option linter.unusedSimpArgs false
set_option maxRecDepth 100000

theorem owned_read {w : World} {B : Nat} {ro : Option Addr} {k cc : Nat} {vs : List Value} {A : Nat → Option Addr} {N C : Nat → Nat} {D : Nat → List Int} {gi n : Nat} {zs : List Int} (hk : k ≤ 100) (hvl : vs.length = k) (hown : w.ownsRow B 26 1 (.slice ro (k + 1) cc) (k + 1) (vs ++ [.slice (some ⟨gi, 0, none⟩) n (n + 1)]))
    (hvs : ∀ i, i < k → vs[i]? = some (.slice (A i) (N i) (C i))) (ho : ∀ i, i < k → Own .u8 5 B w (A i) (N i) (C i) (D i)) (hap : ∀ i j, i < j → j < k → ∀ a b, A i = some a → A j = some b → a.block ≠ b.block) (hl : Lentd w gi zs) (hn : zs.length = n) (hn2 : n ≤ 140737488355328) (hup : B ≤ gi) (hd : ∀ i, i < k → ∀ a, A i = some a → a.block ≠ gi) (hB : B ≤ w.heap.size) :
    Calls Tryd.prog 14 #[.slice ro (k + 1) cc] w fun e w' => e = .returned (.bool true) ∧ Below B w w' := by
  refine owned_rows (A := upd A k (some ⟨gi, 0, none⟩)) (N := upd N k n) (C := upd C k (n + 1)) (G := upd (fun i => blk (A i)) k gi) (by omega) (by omega) hown (fun i hi => ?_) (fun i hi => ?_) (fun i j hij hj h1 h2 => ?_) hB
  · by_cases e : i = k
    · subst e
      rw [upd_same, upd_same, upd_same, List.getElem?_append_right (by omega), hvl]
      simp
    · rw [upd_other _ _ _ e, upd_other _ _ _ e, upd_other _ _ _ e, List.getElem?_append_left (by omega)]
      exact hvs i (by omega)
  · by_cases e : i = k
    · subst e
      rw [upd_same, upd_same, upd_same, upd_same]
      exact (hl.rowd hn hn2).mono hup
    · rw [upd_other _ _ _ e, upd_other _ _ _ e, upd_other _ _ _ e, upd_other _ _ _ e]
      exact (ho i (by omega)).rowb
  · have ei : i ≠ k := by omega
    rw [upd_other _ _ _ ei] at h1
    have si := ((ho i (by omega)).rowb.spot h1).1
    by_cases e : j = k
    · subst e
      rw [upd_same, upd_other _ _ _ ei]
      exact hd i (by omega) _ si
    · rw [upd_other _ _ _ e] at h2
      rw [upd_other _ _ _ e, upd_other _ _ _ ei]
      have sj := ((ho j (by omega)).rowb.spot h2).1
      exact hap i j hij (by omega) _ _ si sj
end Go.Proofs.YtfnnelkipdajiaaDoor
