/- RefTabA · BlS: these texts, one behind another. -/
import Derived.Test.YtpbljjbhfhfmgaaGreatDoorMxTabA
import Derived.Deep.QuietTactic
import Derived.BigQuiet
import Derived.Test.YtpbljjbhfhfmgaaGreatDoorMxLent
import Derived.WalkKit
import Derived.LoopTactic
/- joistref08.Same, right, Right, New and Find by their contracts. -/
namespace Go.Proofs.YtpbljjbhfhfmgaaGreatDoor
set_option maxRecDepth 100000
open Go.RowKit
set_option linter.unusedVariables false
set_option linter.unusedSimpArgs false
set_option maxRecDepth 100000

def samB (l m : List Slt) : Bool := decide (l = m)
theorem samB_t {l m : List Slt} (h : l = m) : samB l m = true := decide_eq_true h
theorem samB_f {l m : List Slt} (h : ¬ l = m) : samB l m = false := decide_eq_false h
/-- Where two slots part first. -/
theorem slt_ne {s t : Slt} (h : ¬ s = t) : (s.gen == t.gen) = false ∨ (s.gen = t.gen ∧ (s.live == t.live) = false) ∨ (s.gen = t.gen ∧ s.live = t.live ∧ (s.two == t.two) = false) ∨ (s.gen = t.gen ∧ s.live = t.live ∧ s.two = t.two ∧ (s.pos == t.pos) = false) ∨ (s.gen = t.gen ∧ s.live = t.live ∧ s.two = t.two ∧ s.pos = t.pos ∧ (s.len == t.len) = false) := by
  by_cases h0 : s.gen = t.gen
  · by_cases h1 : s.live = t.live
    · by_cases h2 : s.two = t.two
      · by_cases h3 : s.pos = t.pos
        · have h4 : ¬ s.len = t.len := fun h4 => h (Slt.ext' h0 h1 h2 h3 h4)
          exact Or.inr (Or.inr (Or.inr (Or.inr ⟨h0, h1, h2, h3, by simpa using h4⟩)))
        · exact Or.inr (Or.inr (Or.inr (Or.inl ⟨h0, h1, h2, by simpa using h3⟩)))
      · exact Or.inr (Or.inr (Or.inl ⟨h0, h1, by simpa using h2⟩))
    · exact Or.inr (Or.inl ⟨h0, by simpa using h1⟩)
  · exact Or.inl (by simpa using h0)
set_option maxHeartbeats 1000000 in
theorem rsame_tb (ao : Option Addr) (n cap : Nat) (l : List Slt) (bo : Option Addr) (m c : Nat) (r : List Slt) (w : World) (h : Tb w ao n cap l) (g : Tb w bo m c r) (hn : n ≤ 9223372036854775807) (hm : m ≤ 9223372036854775807) :
    Calls Tryz.prog 33 #[.slice ao n cap, .slice bo m c] w fun e w' => e = .returned (.bool (samB l r)) ∧ Below w.heap.size w w' := by
  have hl := h.len
  have hr := g.len
  by_cases hnm : n = m
  · subst hnm
    go_enter Tryz.func33, Tryz.ntmps33
    go_wp2
    go_loopw [5] (fun t wr => ∃ k : Nat, k ≤ n ∧ t = .int .i64 k ∧ Hid (∀ i, i < k → sg l i = sg r i) ∧ Below w.heap.size w wr) (fun t _ => n - (intOf t).toNat)
    case atStart => exact ⟨0, Nat.zero_le _, rfl, hid (fun i hi => by omega), Below.refl _ _⟩
    case round =>
      obtain ⟨k, hk, rfl, HE, hb⟩ := hrel
      by_cases hlt : k < n
      · obtain ⟨b1, o1, rfl, _, _⟩ := h.here (by omega)
        obtain ⟨b2, o2, rfl, _, _⟩ := g.here (by omega)
        obtain ⟨c0, c1, c2, c3, c4⟩ := h.at hb hlt
        obtain ⟨d0, d1, d2, d3, d4⟩ := g.at hb hlt
        have hki : (k : Int) < (n : Int) := by omega
        have HT : Hid (sg l k = sg r k → ∀ i, i < k + 1 → sg l i = sg r i) := fun e i hi => by
          by_cases e2 : i = k
          · rw [e2]; exact e
          · exact HE.out i (by omega)
        have HF : Hid (¬ sg l k = sg r k → false = samB l r) := fun e => (samB_f (fun e2 => e (by rw [e2]))).symm
        generalize sg l k = s at *
        generalize sg r k = t at *
        clear h g HE
        by_cases hs : s = t
        · subst hs
          have HT' := hid (HT.out rfl)
          obtain ⟨g0, lv, tw, p, ln⟩ := s
          simp only at c0 c1 c2 c3 c4 d0 d1 d2 d3 d4
          clear HT HF
          go_wp2
          go_quiet (fail)
          go_wp2
          go_roundw
          case rel => exact ⟨k + 1, by omega, by go_num, HT', below_drewN hb _⟩
          case measure => simp [intOf]; omega
        · have HF' := hid (HF.out hs)
          have hd := slt_ne hs
          obtain ⟨g0, lv, tw, p, ln⟩ := s
          obtain ⟨g1, lv1, tw1, p1, ln1⟩ := t
          simp only at c0 c1 c2 c3 c4 d0 d1 d2 d3 d4 hd
          clear HT HF hs
          rcases hd with h1 | ⟨rfl, h1⟩ | ⟨rfl, rfl, h1⟩ | ⟨rfl, rfl, rfl, h1⟩ | ⟨rfl, rfl, rfl, rfl, h1⟩
          all_goals
            go_wp2
            go_quiet (fail)
            go_wp2
            go_ret
            exact ⟨ret_bool HF'.out, below_drewN hb _⟩
      · obtain rfl : k = n := by omega
        have HT : Hid (samB l r = true) := hid (samB_t (ext_sg (by omega) (fun i hi => HE.out i (by omega))))
        go_wp2
        go_ret
        exact ⟨ret_bool HT.out.symm, hb⟩
  · have hne : ((n : Int) != (m : Int)) = true := by simp; omega
    have hf : samB l r = false := samB_f (fun e => hnm (by rw [← hl, ← hr, e]))
    rw [hf]
    clear h g
    go_enter Tryz.func33, Tryz.ntmps33
    go_wp2
    go_ret
    exact ⟨rfl, Below.refl _ _⟩
end Go.Proofs.YtpbljjbhfhfmgaaGreatDoor
/- joistref11.Same by its contract, at rows of blocks that are alike. -/
namespace Go.Proofs.YtpbljjbhfhfmgaaGreatDoor
set_option maxRecDepth 100000
open Go.RowKit
set_option linter.unusedVariables false
set_option linter.unusedSimpArgs false
set_option maxRecDepth 100000

theorem rsame_bs (ao : Option Addr) (n cap : Nat) (bo : Option Addr) (cap' : Nat) (l : List Blk) (w : World) (h : Bs w ao n cap l) (g : Bs w bo n cap' l) (hn : n ≤ 100000) :
    Calls Tryz.prog 13 #[.slice ao n cap, .slice bo n cap'] w fun e w' => e = .returned (.bool true) ∧ Below w.heap.size w w' := by
  have hnn : ((n : Int) != (n : Int)) = false := by simp
  go_enter Tryz.func13, Tryz.ntmps13
  go_wp2
  clear hnn
  go_loopw [5] (fun s wr => ∃ k : Nat, k ≤ n ∧ s = .int .i64 k ∧ Below w.heap.size w wr) (fun s _ => n - (intOf s).toNat)
  case atStart => exact ⟨0, Nat.zero_le _, rfl, Below.refl _ _⟩
  case round =>
    obtain ⟨k, hk, rfl, hb⟩ := hrel
    by_cases hlt : k < n
    · obtain ⟨b, off, rfl, _, _⟩ := h.here (by omega)
      obtain ⟨b', off', rfl, _, _⟩ := g.here (by omega)
      obtain ⟨c0, c1, c2⟩ := h.at hb hlt
      obtain ⟨d0, d1, d2⟩ := g.at hb hlt
      have hki : (k : Int) < (n : Int) := by omega
      clear h g
      generalize ba l k = s at *
      obtain ⟨p, z, x⟩ := s
      simp only at *
      go_wp2
      go_quiet (fail)
      go_wp2
      go_roundw
      case rel => exact ⟨k + 1, by omega, by go_num, below_drewN hb _⟩
      case measure => simp [intOf]; omega
    · obtain rfl : k = n := by omega
      have hki : ¬ ((k : Int) < (k : Int)) := by omega
      go_wp2
      go_ret
      exact ⟨rfl, hb⟩
end Go.Proofs.YtpbljjbhfhfmgaaGreatDoor
