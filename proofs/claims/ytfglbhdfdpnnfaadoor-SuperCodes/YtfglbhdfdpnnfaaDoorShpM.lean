/- Shapes in plain words: which ones are right, where their parts begin. -/
import Derived.Test.YtfglbhdfdpnnfaaDoorLgM
import Derived.Test.YtfglbhdfdpnnfaaDoorNtM
namespace Go.Proofs.YtfglbhdfdpnnfaaDoor
set_option maxRecDepth 100000
set_option linter.unusedVariables false
set_option linter.unusedSimpArgs false

structure Shp where
  pg : Int
  sl : Int
  rt : Int
  rm : Int
/-- Numbers that an int can bear. -/
structure ShG (s : Shp) : Prop where
  gp : Rg s.pg
  gs : Rg s.sl
  gr : Rg s.rt
  gm : Rg s.rm
def hdN (s : Shp) : Int := 2 + 2 * s.rm
def tbN (s : Shp) : Int := hdN s + 1
def rtN (s : Shp) : Int := tbN s + s.sl / 2
def trN (s : Shp) : Int := rtN s + s.rt / 2
def hpN (s : Shp) : Int := trN s + 26
def lnN (s : Shp) : Int := hpN s + 4 * s.pg
def ShR (s : Shp) : Prop := (1 ≤ s.pg ∧ s.pg ≤ 64) ∧ (2 ≤ s.sl ∧ s.sl ≤ 32 ∧ s.sl % 2 = 0) ∧ (2 ≤ s.rt ∧ s.rt ≤ 8 ∧ s.rt % 2 = 0) ∧ 1 ≤ s.rm ∧ lnN s ≤ 4096
instance (s : Shp) : Decidable (ShR s) := by unfold ShR; exact inferInstance
def shB (s : Shp) : Bool := decide (ShR s)
theorem ShR.room {s : Shp} (h : ShR s) : s.rm ≤ 2030 := by
  obtain ⟨h1, h2, h3, h4, h5⟩ := h
  unfold lnN hpN trN rtN tbN hdN at h5
  omega
theorem ShR.g {s : Shp} (h : ShR s) : ShG s := by
  have h6 := h.room
  obtain ⟨h1, h2, h3, h4, h5⟩ := h
  unfold Rg at *
  exact ⟨⟨by omega, by omega⟩, ⟨by omega, by omega⟩, ⟨by omega, by omega⟩, ⟨by omega, by omega⟩⟩
/-- What Areas answers: nine numbers, and the error. -/
def ar0 (s : Shp) : Int := if ShR s then 1 else 0
def ar1 (s : Shp) : Int := if ShR s then 2 else 0
def ar2 (s : Shp) : Int := if ShR s then s.rm else 0
def ar3 (s : Shp) : Int := if ShR s then hdN s else 0
def ar4 (s : Shp) : Int := if ShR s then tbN s else 0
def ar5 (s : Shp) : Int := if ShR s then rtN s else 0
def ar6 (s : Shp) : Int := if ShR s then trN s else 0
def ar7 (s : Shp) : Int := if ShR s then hpN s else 0
def ar8 (s : Shp) : Int := if ShR s then lnN s else 0
def arE (s : Shp) : Int := if ShR s then 0 else 1
theorem ar_t {s : Shp} (h : ShR s) : ar0 s = 1 ∧ ar1 s = 2 ∧ ar2 s = s.rm ∧ ar3 s = hdN s ∧ ar4 s = tbN s ∧ ar5 s = rtN s ∧ ar6 s = trN s ∧ ar7 s = hpN s ∧ ar8 s = lnN s ∧ arE s = 0 := ⟨if_pos h, if_pos h, if_pos h, if_pos h, if_pos h, if_pos h, if_pos h, if_pos h, if_pos h, if_pos h⟩
theorem ar_f {s : Shp} (h : ¬ ShR s) : ar0 s = 0 ∧ ar1 s = 0 ∧ ar2 s = 0 ∧ ar3 s = 0 ∧ ar4 s = 0 ∧ ar5 s = 0 ∧ ar6 s = 0 ∧ ar7 s = 0 ∧ ar8 s = 0 ∧ arE s = 1 := ⟨if_neg h, if_neg h, if_neg h, if_neg h, if_neg h, if_neg h, if_neg h, if_neg h, if_neg h, if_neg h⟩
def OutP (s : Shp) (line : Int) : Prop := ShR s ∧ 0 ≤ line ∧ line < lnN s ∧ (line < 2 ∨ hdN s ≤ line)
instance (s : Shp) (line : Int) : Decidable (OutP s line) := by unfold OutP; exact inferInstance
def outB (s : Shp) (line : Int) : Bool := decide (OutP s line)
/-- In the order in which the document's Right asks: where it parts. -/
theorem shp_no {s : Shp} (h : ¬ ShR s) : s.pg < 1 ∨ (¬ s.pg < 1 ∧ 64 < s.pg) ∨ (¬ s.pg < 1 ∧ ¬ 64 < s.pg ∧ s.sl < 2) ∨ (¬ s.pg < 1 ∧ ¬ 64 < s.pg ∧ ¬ s.sl < 2 ∧ 32 < s.sl) ∨ (¬ s.pg < 1 ∧ ¬ 64 < s.pg ∧ ¬ s.sl < 2 ∧ ¬ 32 < s.sl ∧ s.sl % 2 = 1) ∨
    (¬ s.pg < 1 ∧ ¬ 64 < s.pg ∧ ¬ s.sl < 2 ∧ ¬ 32 < s.sl ∧ ¬ s.sl % 2 = 1 ∧ s.rt < 2) ∨ (¬ s.pg < 1 ∧ ¬ 64 < s.pg ∧ ¬ s.sl < 2 ∧ ¬ 32 < s.sl ∧ ¬ s.sl % 2 = 1 ∧ ¬ s.rt < 2 ∧ 8 < s.rt) ∨ (¬ s.pg < 1 ∧ ¬ 64 < s.pg ∧ ¬ s.sl < 2 ∧ ¬ 32 < s.sl ∧ ¬ s.sl % 2 = 1 ∧ ¬ s.rt < 2 ∧ ¬ 8 < s.rt ∧ s.rt % 2 = 1) ∨
    (¬ s.pg < 1 ∧ ¬ 64 < s.pg ∧ ¬ s.sl < 2 ∧ ¬ 32 < s.sl ∧ ¬ s.sl % 2 = 1 ∧ ¬ s.rt < 2 ∧ ¬ 8 < s.rt ∧ ¬ s.rt % 2 = 1 ∧ s.rm < 1) ∨ (¬ s.pg < 1 ∧ ¬ 64 < s.pg ∧ ¬ s.sl < 2 ∧ ¬ 32 < s.sl ∧ ¬ s.sl % 2 = 1 ∧ ¬ s.rt < 2 ∧ ¬ 8 < s.rt ∧ ¬ s.rt % 2 = 1 ∧ ¬ s.rm < 1 ∧ 4096 < s.rm) ∨
    (¬ s.pg < 1 ∧ ¬ 64 < s.pg ∧ ¬ s.sl < 2 ∧ ¬ 32 < s.sl ∧ ¬ s.sl % 2 = 1 ∧ ¬ s.rt < 2 ∧ ¬ 8 < s.rt ∧ ¬ s.rt % 2 = 1 ∧ ¬ s.rm < 1 ∧ ¬ 4096 < s.rm ∧ ¬ lnN s ≤ 4096) := by
  by_cases a0 : s.pg < 1
  · exact .inl a0
  · by_cases a1 : 64 < s.pg
    · exact .inr (.inl ⟨a0, a1⟩)
    · by_cases a2 : s.sl < 2
      · exact .inr (.inr (.inl ⟨a0, a1, a2⟩))
      · by_cases a3 : 32 < s.sl
        · exact .inr (.inr (.inr (.inl ⟨a0, a1, a2, a3⟩)))
        · by_cases a4 : s.sl % 2 = 1
          · exact .inr (.inr (.inr (.inr (.inl ⟨a0, a1, a2, a3, a4⟩))))
          · by_cases a5 : s.rt < 2
            · exact .inr (.inr (.inr (.inr (.inr (.inl ⟨a0, a1, a2, a3, a4, a5⟩)))))
            · by_cases a6 : 8 < s.rt
              · exact .inr (.inr (.inr (.inr (.inr (.inr (.inl ⟨a0, a1, a2, a3, a4, a5, a6⟩))))))
              · by_cases a7 : s.rt % 2 = 1
                · exact .inr (.inr (.inr (.inr (.inr (.inr (.inr (.inl ⟨a0, a1, a2, a3, a4, a5, a6, a7⟩)))))))
                · by_cases a8 : s.rm < 1
                  · exact .inr (.inr (.inr (.inr (.inr (.inr (.inr (.inr (.inl ⟨a0, a1, a2, a3, a4, a5, a6, a7, a8⟩))))))))
                  · by_cases a9 : 4096 < s.rm
                    · exact .inr (.inr (.inr (.inr (.inr (.inr (.inr (.inr (.inr (.inl ⟨a0, a1, a2, a3, a4, a5, a6, a7, a8, a9⟩)))))))))
                    · by_cases a10 : ¬ lnN s ≤ 4096
                      · exact .inr (.inr (.inr (.inr (.inr (.inr (.inr (.inr (.inr (.inr (⟨a0, a1, a2, a3, a4, a5, a6, a7, a8, a9, a10⟩))))))))))
                      · exact (h ⟨⟨by omega, by omega⟩, ⟨by omega, by omega, by omega⟩, ⟨by omega, by omega, by omega⟩, by omega, by omega⟩).elim
/-- A log of a right shape is right for all lines; its lines are those that are not outside, and the mark (P16.3). -/
theorem ShR.log {s : Shp} (h : ShR s) : rightG ⟨1, 2, s.rm⟩ (lnN s) = true ∧ rightG ⟨1, 2, s.rm⟩ 4096 = true ∧ (∀ line, mineG ⟨1, 2, s.rm⟩ line = decide (line = 1 ∨ (2 ≤ line ∧ line < hdN s))) := by
  have h6 := h.room
  obtain ⟨h1, h2, h3, h4, h5⟩ := h
  have e0 : lnN s = 2 + 2 * s.rm + 1 + s.sl / 2 + s.rt / 2 + 26 + 4 * s.pg := by unfold lnN hpN trN rtN tbN hdN; rfl
  have a : rightG ⟨1, 2, s.rm⟩ (lnN s) = true := decide_eq_true (by simp only; omega)
  have b : rightG ⟨1, 2, s.rm⟩ 4096 = true := decide_eq_true (by simp only; omega)
  refine ⟨a, b, fun line => ?_⟩
  unfold mineG inG
  rw [b, Bool.true_and, Bool.eq_iff_iff]
  simp only [Bool.or_eq_true, decide_eq_true_eq]
  unfold hdN
  omega
end Go.Proofs.YtfglbhdfdpnnfaaDoor
