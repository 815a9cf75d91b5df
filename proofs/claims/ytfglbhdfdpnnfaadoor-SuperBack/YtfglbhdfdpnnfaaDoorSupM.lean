/- Heads in plain words: which ones there are, their bytes, what bytes tell, the modes' names. -/
import Derived.Test.YtfglbhdfdpnnfaaDoorShpM
import Derived.Test.YtfglbhdfdpnnfaaDoorCrc
namespace Go.Proofs.YtfglbhdfdpnnfaaDoor
set_option maxRecDepth 100000
open Go.RowKit
set_option linter.unusedVariables false
set_option linter.unusedSimpArgs false

/-- Which bases go with which modes. -/
def MdP (pg m b : Int) : Prop := 0 ≤ b ∧ b ≤ pg ∧ ((m = 1 ∧ b = 0) ∨ (m = 2 ∧ b = pg) ∨ m = 3 ∨ m = 4)
instance (pg m b : Int) : Decidable (MdP pg m b) := by unfold MdP; exact inferInstance
def HdP (s : Shp) (m b : Int) : Prop := ShR s ∧ MdP s.pg m b
instance (s : Shp) (m b : Int) : Decidable (HdP s m b) := by unfold HdP; exact inferInstance
def hpB (s : Shp) (m b : Int) : Bool := decide (HdP s m b)
/-- A head's seven words; its bytes, with the sum. -/
def spW (s : Shp) (m b : Int) : List Int := [54238244327242, m, s.pg, s.sl, s.rt, s.rm, b]
def spY (s : Shp) (m b : Int) : List Int := ofL (spW s m b) ++ bys (sumN 0 (ofL (spW s m b)) : Nat) 8
/-- What Write answers. -/
def spE (s : Shp) (m b : Int) : Int := if HdP s m b then 0 else 1
def sbL (s : Shp) (m b : Int) : List Int := if HdP s m b then spY s m b else []
theorem sp_t {s : Shp} {m b : Int} (h : HdP s m b) : spE s m b = 0 ∧ sbL s m b = spY s m b ∧ hpB s m b = true := ⟨if_pos h, if_pos h, decide_eq_true h⟩
theorem sp_f {s : Shp} {m b : Int} (h : ¬ HdP s m b) : spE s m b = 1 ∧ sbL s m b = [] ∧ hpB s m b = false := ⟨if_neg h, if_neg h, decide_eq_false h⟩
theorem HdP.nums {s : Shp} {m b : Int} (h : HdP s m b) : (1 ≤ s.pg ∧ s.pg ≤ 64) ∧ (2 ≤ s.sl ∧ s.sl ≤ 32) ∧ (2 ≤ s.rt ∧ s.rt ≤ 8) ∧ (1 ≤ s.rm ∧ s.rm ≤ 2030) ∧ (1 ≤ m ∧ m ≤ 4) ∧ (0 ≤ b ∧ b ≤ 64) := by
  have h6 := h.1.room
  obtain ⟨⟨h1, ⟨h2, h3, _⟩, ⟨h4, h5, _⟩, h7, _⟩, h8, h9, ha⟩ := h
  exact ⟨h1, ⟨h2, h3⟩, ⟨h4, h5⟩, ⟨h7, h6⟩, by omega, by omega⟩
theorem HdP.ok {s : Shp} {m b : Int} (h : HdP s m b) : okL (spW s m b) = true := by
  obtain ⟨h1, h2, h3, h4, h5, h6⟩ := h.nums
  simp only [okL, spW, List.all_cons, List.all_nil, Bool.and_true]
  rw [fitB_t (n := 54238244327242) (by omega) (by omega), fitB_t (n := m) (by omega) (by omega), fitB_t (n := s.pg) (by omega) (by omega), fitB_t (n := s.sl) (by omega) (by omega), fitB_t (n := s.rt) (by omega) (by omega), fitB_t (n := s.rm) (by omega) (by omega), fitB_t (n := b) (by omega) (by omega)]
  rfl
theorem spW_len (s : Shp) (m b : Int) : (ofL (spW s m b)).length = 56 := by rw [ofL_length]; rfl
theorem spY_len (s : Shp) (m b : Int) : (spY s m b).length = 64 := by unfold spY; rw [List.length_append, spW_len, bys_length]
theorem spY_bytes (s : Shp) (m b : Int) : Bytes (spY s m b) := (ofL_bytes _).append (bys_bytes _ _)
theorem sbL_bytes (s : Shp) (m b : Int) : Bytes (sbL s m b) := by
  unfold sbL
  split
  · exact spY_bytes s m b
  · intro z hz; cases hz
theorem sbL_len (s : Shp) (m b : Int) : (sbL s m b).length ≤ 64 := by
  unfold sbL
  split
  · exact Nat.le_of_eq (spY_len s m b)
  · exact Nat.zero_le _
/-- All eight words, as words. -/
theorem spY_of (s : Shp) (m b : Int) : spY s m b = ofL (spW s m b ++ [((sumN 0 (ofL (spW s m b)) : Nat) : Int)]) := by rw [ofL_snoc]; rfl
theorem spY_all {s : Shp} {m b : Int} (h : HdP s m b) : allB (spY s m b) = true ∧ allR (spY s m b) = spW s m b ++ [((sumN 0 (ofL (spW s m b)) : Nat) : Int)] := by
  rw [spY_of]
  refine all_of ?_
  have h1 := h.ok
  have h2 := sumN_lt (s := 0) (by omega) (ofL_bytes (spW s m b))
  unfold okL at *
  rw [List.all_append, h1, Bool.true_and]
  simp only [List.all_cons, List.all_nil, Bool.and_true]
  exact fitB_t (by omega) (by omega)
/-- What words tell, whether or not they are a head's. -/
def wdS (ws : List Int) : Shp := ⟨ws.getD 2 0, ws.getD 3 0, ws.getD 4 0, ws.getD 5 0⟩
def RdH (zs : List Int) : Prop := allB zs = true ∧ (allR zs).length = 8 ∧ HdP (wdS (allR zs)) ((allR zs).getD 1 0) ((allR zs).getD 6 0) ∧ spY (wdS (allR zs)) ((allR zs).getD 1 0) ((allR zs).getD 6 0) = zs
instance (zs : List Int) : Decidable (RdH zs) := by unfold RdH; exact inferInstance
/-- What Read answers. -/
def rhB (zs : List Int) : Bool := decide (RdH zs)
def rhS (zs : List Int) : Shp := if RdH zs then wdS (allR zs) else ⟨0, 0, 0, 0⟩
def rhM (zs : List Int) : Int := if RdH zs then (allR zs).getD 1 0 else 0
def rhN (zs : List Int) : Int := if RdH zs then (allR zs).getD 6 0 else 0
theorem rh_t {zs : List Int} (h : RdH zs) : rhS zs = wdS (allR zs) ∧ rhM zs = (allR zs).getD 1 0 ∧ rhN zs = (allR zs).getD 6 0 ∧ rhB zs = true := ⟨if_pos h, if_pos h, if_pos h, decide_eq_true h⟩
theorem rh_f {zs : List Int} (h : ¬ RdH zs) : rhS zs = ⟨0, 0, 0, 0⟩ ∧ rhM zs = 0 ∧ rhN zs = 0 ∧ rhB zs = false := ⟨if_neg h, if_neg h, if_neg h, decide_eq_false h⟩
/-- What is written is read (P17.4). -/
theorem rd_sp {s : Shp} {m b : Int} (h : HdP s m b) : RdH (spY s m b) ∧ rhS (spY s m b) = s ∧ rhM (spY s m b) = m ∧ rhN (spY s m b) = b ∧ rhB (spY s m b) = true := by
  obtain ⟨h1, h2⟩ := spY_all h
  have hR : RdH (spY s m b) := by
    refine ⟨h1, by rw [h2]; rfl, ?_, ?_⟩
    · rw [h2]; exact h
    · rw [h2]; rfl
  obtain ⟨a, b', c, d⟩ := rh_t hR
  refine ⟨hR, ?_, ?_, ?_, d⟩
  · rw [a, h2]; rfl
  · rw [b', h2]; rfl
  · rw [c, h2]; rfl
/-- What is read is written (P17.4). -/
theorem sp_rd {zs : List Int} (h : RdH zs) : HdP (rhS zs) (rhM zs) (rhN zs) ∧ spE (rhS zs) (rhM zs) (rhN zs) = 0 ∧ sbL (rhS zs) (rhM zs) (rhN zs) = zs := by
  obtain ⟨a, b, c, d⟩ := rh_t h
  rw [a, b, c]
  obtain ⟨h1, h2, h3, h4⟩ := h
  obtain ⟨e1, e2, _⟩ := sp_t h3
  exact ⟨h3, e1, e2.trans h4⟩
theorem rdH_iff {zs : List Int} : RdH zs ↔ ∃ s m b, HdP s m b ∧ zs = spY s m b := by
  constructor
  · rintro ⟨_, _, h3, h4⟩
    exact ⟨_, _, _, h3, h4.symm⟩
  · rintro ⟨s, m, b, h, rfl⟩
    exact (rd_sp h).1
theorem rhS_g (zs : List Int) : ShG (rhS zs) := by
  by_cases h : RdH zs
  · rw [(rh_t h).1]
    exact h.2.2.1.1.g
  · rw [(rh_f h).1]
    have : Rg 0 := ⟨by decide, by decide⟩
    exact ⟨this, this, this, this⟩
theorem rh_rg (zs : List Int) : Rg (rhM zs) ∧ Rg (rhN zs) := by
  by_cases h : RdH zs
  · obtain ⟨_, a, b, _⟩ := rh_t h
    rw [a, b]
    obtain ⟨_, _, _, _, h5, h6⟩ := h.2.2.1.nums
    unfold Rg
    omega
  · obtain ⟨_, a, b, _⟩ := rh_f h
    rw [a, b]
    exact ⟨⟨by decide, by decide⟩, ⟨by decide, by decide⟩⟩
/-- The modes' names, by their bytes. -/
def nmL (m : Int) : List UInt8 := if m = 1 then [111, 110, 101] else if m = 2 then [116, 119, 111] else if m = 3 then [117, 112] else if m = 4 then [100, 111, 119, 110] else []
def nmT (m : Int) : ByteArray := ⟨(nmL m).toArray⟩
theorem nm_cases (m : Int) : m = 1 ∨ m = 2 ∨ m = 3 ∨ m = 4 ∨ (m ≠ 1 ∧ m ≠ 2 ∧ m ≠ 3 ∧ m ≠ 4) := by omega
theorem nmL_0 {m : Int} (h : m ≠ 1 ∧ m ≠ 2 ∧ m ≠ 3 ∧ m ≠ 4) : nmL m = [] := by
  obtain ⟨h1, h2, h3, h4⟩ := h
  unfold nmL
  rw [if_neg h1, if_neg h2, if_neg h3, if_neg h4]
/-- The mode of a name. -/
def mdN (t : List UInt8) : Int := if t = [111, 110, 101] then 1 else if t = [116, 119, 111] then 2 else if t = [117, 112] then 3 else if t = [100, 111, 119, 110] then 4 else 0
def mdB (t : List UInt8) : Bool := decide (mdN t ≠ 0)
theorem md_cases (t : List UInt8) : (t = [111, 110, 101] ∧ mdN t = 1) ∨ (t = [116, 119, 111] ∧ mdN t = 2) ∨ (t = [117, 112] ∧ mdN t = 3) ∨ (t = [100, 111, 119, 110] ∧ mdN t = 4) ∨ (t ≠ [111, 110, 101] ∧ t ≠ [116, 119, 111] ∧ t ≠ [117, 112] ∧ t ≠ [100, 111, 119, 110] ∧ mdN t = 0) := by
  by_cases h1 : t = [111, 110, 101]
  · exact .inl ⟨h1, if_pos h1⟩
  by_cases h2 : t = [116, 119, 111]
  · exact .inr (.inl ⟨h2, by subst h2; decide⟩)
  by_cases h3 : t = [117, 112]
  · exact .inr (.inr (.inl ⟨h3, by subst h3; decide⟩))
  by_cases h4 : t = [100, 111, 119, 110]
  · exact .inr (.inr (.inr (.inl ⟨h4, by subst h4; decide⟩)))
  · refine .inr (.inr (.inr (.inr ⟨h1, h2, h3, h4, ?_⟩)))
    unfold mdN
    rw [if_neg h1, if_neg h2, if_neg h3, if_neg h4]
/-- Modes and names are each other's (P17.4). -/
theorem nm_md {t : List UInt8} (h : mdB t = true) : nmL (mdN t) = t := by
  rcases md_cases t with ⟨rfl, e⟩ | ⟨rfl, e⟩ | ⟨rfl, e⟩ | ⟨rfl, e⟩ | ⟨_, _, _, _, e⟩
  · decide
  · decide
  · decide
  · decide
  · unfold mdB at h
    rw [e] at h
    cases h
theorem md_nm (m : Int) : mdB (nmL m) = decide (nmL m ≠ []) ∧ (mdB (nmL m) = true → mdN (nmL m) = m) := by
  rcases nm_cases m with rfl | rfl | rfl | rfl | h
  · decide
  · decide
  · decide
  · decide
  · rw [nmL_0 h]
    exact ⟨by decide, fun h => absurd h (by decide)⟩
end Go.Proofs.YtfglbhdfdpnnfaaDoor
