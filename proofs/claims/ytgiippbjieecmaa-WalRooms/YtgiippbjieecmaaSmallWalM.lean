/- The small case of the log, reckoned. -/
import Derived.Test.YtgiippbjieecmaaCommitP
namespace Go.Proofs.Ytgiippbjieecmaa
set_option maxRecDepth 100000
open Go.RowKit
set_option linter.unusedVariables false

theorem commit_any {w : World} {F : Nat → Prop} {p : Nat} {S : St} (hd : Dev w F p S) (M F1 R : Int) (lo : Option Addr) (m lc : Nat) (D : Nat → ChD) (hg : (Lg.mk M F1 R).Ok) (h : Chs w lo m D) (hno : ∀ i, i < m → 0 < (D i).bl → ∀ c, (D i).ba = some c → ¬ F c.block) :
    Calls Try.prog 25 #[.pointer (some ⟨p, 0, none⟩), .agg #[.int .i64 M, .int .i64 F1, .int .i64 R], .slice lo m lc] w fun e w' => e = .returned (.int .i64 (commitE S ⟨M, F1, R⟩ (saysN D m))) ∧ ∃ F', Dev w' F' p (commitS S ⟨M, F1, R⟩ (saysN D m)) ∧ Goes F w F' w' := by
  have hl : saysN D m ≠ [] ↔ 0 < m := by
    have := saysN_length D m
    constructor
    · intro h
      have := List.length_pos_iff.2 h
      omega
    · intro h e
      rw [e] at this
      simp at this
      omega
  cases hB : comB S.n ⟨M, F1, R⟩ (saysN D m) with
  | false =>
    rw [(commit_arg hB).1, (commit_arg hB).2]
    exact (commit_bad hd M F1 R lo m lc D hg h hB).mono fun e w' ⟨h1, h2⟩ => ⟨h1, F, hd.below h2, Goes.of_below h2⟩
  | true =>
    by_cases hW : writeE ⟨M, F1, R⟩ (saysN D m) = 0 ∧ 0 < m
    · obtain ⟨e1, e2⟩ := commit_runs hB hW.1 (hl.2 hW.2)
      rw [e1, e2]
      exact commit_good hd M F1 R lo m lc D hg h hno hB hW.1 hW.2
    · obtain ⟨e1, e2⟩ := commit_same hB (fun e => hW ⟨e.1, hl.1 e.2⟩)
      rw [e1, e2]
      exact (commit_idle hd M F1 R lo m lc D hg h hB hW).mono fun e w' ⟨h1, h2⟩ => ⟨h1, F, hd.below h2, Goes.of_below h2⟩

def swg : Lg := ⟨1, 2, 2⟩
def swo : List Int := List.replicate 64 1
def sw0 : St := St.new (List.replicate 512 0)
def sw1 : St := commitS sw0 swg [(7, swo)]
theorem sw_e1 : commitE sw0 swg [(7, swo)] = 0 := by decide +kernel
theorem sw_s1 : (lasts sw1).length = 512 ∧ (lasts sw1).getD 511 0 = 1 ∧ (lasts sw1).getD 64 0 = 0 := by decide +kernel
theorem sw_n1 : sw1.n = 8 := by decide +kernel
theorem sw_e2 (S : St) (h : S.n = 8) : commitE S swg [(0, swo), (6, swo), (7, swo)] = 6 := by
  have h1 : comB S.n swg [(0, swo), (6, swo), (7, swo)] = true := by rw [h]; decide +kernel
  rw [(commit_same h1 (by decide +kernel)).1]
  decide +kernel
theorem sw_e3 (S : St) (h : S.n = 8) : commitE S swg [(1, swo)] = 1 := by
  have h1 : comB S.n swg [(1, swo)] = true := by rw [h]; decide +kernel
  rw [(commit_same h1 (by decide +kernel)).1]
  decide +kernel
end Go.Proofs.Ytgiippbjieecmaa
