/- joistref09.at, Same, Right, asks, New by their contracts. -/
import Derived.Test.YtmefepjjlhphnaaDoorRootC
import Derived.Test.YtmefepjjlhphnaaDoorRefNames
import Derived.Deep.QuietTactic
import Derived.BigQuiet
namespace Go.Proofs.YtmefepjjlhphnaaDoor
set_option maxRecDepth 100000
open Go.RowKit
set_option linter.unusedVariables false
set_option linter.unusedSimpArgs false
set_option maxRecDepth 100000

def plI (l : List Rt) (x : ByteArray) : Int := match plO l x with | some k => (k : Int) | none => -1
theorem plI_t {l : List Rt} {x : ByteArray} {k : Nat} (h : plO l x = some k) : plI l x = k := by unfold plI; rw [h]
theorem plI_f {l : List Rt} {x : ByteArray} (h : plO l x = none) : plI l x = -1 := by unfold plI; rw [h]
theorem eqN_yes {a b : ByteArray} (h : a = b) : (a.toList == b.toList) = true := sameN_t h
theorem eqN_no {a b : ByteArray} (h : a ≠ b) : (a.toList == b.toList) = false := sameN_f h
theorem eqN_no' {a b : ByteArray} (h : a ≠ b) : ¬ a.toList = b.toList := fun e => h (sameN_iff.1 (by unfold sameN; rw [e]; simp))
theorem at_rs (ao : Option Addr) (n cap : Nat) (l : List Rt) (x : ByteArray) (w : World) (h : Rs w ao n cap l) (hn : n ≤ 9223372036854775806) :
    Calls Tryd.prog 43 #[.slice ao n cap, .string x] w fun e w' => e = .returned (.int .i64 (plI l x)) ∧ w = w' := by
  have hl := h.len
  go_enter Tryd.func43, Tryd.ntmps43
  go_wp2
  go_loop [5] (fun t => ∃ k : Nat, k ≤ n ∧ t = .int .i64 k ∧ Hid (∀ i, i < k → (ra l i).nm ≠ x)) (fun t => n - (intOf t).toNat)
  case atStart => exact ⟨0, Nat.zero_le _, rfl, hid (fun i hi => by omega)⟩
  case round =>
    obtain ⟨k, hk, rfl, HK⟩ := hrel
    by_cases hlt : k < n
    · obtain ⟨bb, off, rfl, _, _⟩ := h.here (by omega)
      obtain ⟨c0, c1, c2⟩ := h.at (Below.refl _ _) hlt
      have hki : (k : Int) < (n : Int) := by omega
      have HT : Hid ((ra l k).nm = x → plI l x = k) := fun e => plI_t (plO_some (by omega) e HK.out)
      have HF : Hid ((ra l k).nm ≠ x → ∀ i, i < k + 1 → (ra l i).nm ≠ x) := fun e i hi => by
        by_cases e2 : i = k
        · rw [e2]; exact e
        · exact HK.out i (by omega)
      generalize ra l k = r at *
      obtain ⟨nm, ix, gn⟩ := r
      simp only at c0 c1 c2 HT HF
      clear HK h
      by_cases he : nm = x
      · have HT' := hid (HT.out he)
        have hq := eqN_yes he
        clear HT HF he
        go_wp2
        go_ret
        rw [HT'.out]
        exact ⟨rfl, rfl⟩
      · have HF' := hid (HF.out he)
        have hq := eqN_no he
        have hq2 := eqN_no' he
        clear HT HF he
        go_wp2
        go_round
        case rel => exact ⟨k + 1, by omega, by go_num, HF'⟩
        case measure => simp [intOf]; omega
    · obtain rfl : k = n := by omega
      have HR := hid (plI_f (plO_not (l := l) (x := x) (fun i hi => HK.out i (by omega))))
      have hki : ¬ ((k : Int) < (k : Int)) := by omega
      go_wp2
      go_ret
      rw [HR.out]
      exact ⟨rfl, rfl⟩
def samR (l m : List Rt) : Bool := decide (l = m)
theorem samR_t {l m : List Rt} (h : l = m) : samR l m = true := decide_eq_true h
theorem samR_f {l m : List Rt} (h : ¬ l = m) : samR l m = false := decide_eq_false h
/-- Where two roots part first. -/
theorem rt_ne {s t : Rt} (h : ¬ s = t) : s.nm ≠ t.nm ∨ (s.nm = t.nm ∧ (s.ix == t.ix) = false) ∨ (s.nm = t.nm ∧ s.ix = t.ix ∧ (s.gn == t.gn) = false) := by
  by_cases h0 : s.nm = t.nm
  · by_cases h1 : s.ix = t.ix
    · have h2 : ¬ s.gn = t.gn := fun h2 => h (Rt.ext' h0 h1 h2)
      exact Or.inr (Or.inr ⟨h0, h1, by simpa using h2⟩)
    · exact Or.inr (Or.inl ⟨h0, by simpa using h1⟩)
  · exact Or.inl h0
set_option maxHeartbeats 1000000 in
theorem rsame_rs (ao : Option Addr) (n cap : Nat) (l : List Rt) (bo : Option Addr) (m c : Nat) (r : List Rt) (w : World) (h : Rs w ao n cap l) (g : Rs w bo m c r) (hn : n ≤ 9223372036854775806) (hm : m ≤ 9223372036854775806) :
    Calls Tryd.prog 13 #[.slice ao n cap, .slice bo m c] w fun e w' => e = .returned (.bool (samR l r)) ∧ Below w.heap.size w w' := by
  have hl := h.len
  have hr := g.len
  by_cases hnm : n = m
  · subst hnm
    go_enter Tryd.func13, Tryd.ntmps13
    go_wp2
    go_loopw [5] (fun t wr => ∃ k : Nat, k ≤ n ∧ t = .int .i64 k ∧ Hid (∀ i, i < k → ra l i = ra r i) ∧ Below w.heap.size w wr) (fun t _ => n - (intOf t).toNat)
    case atStart => exact ⟨0, Nat.zero_le _, rfl, hid (fun i hi => by omega), Below.refl _ _⟩
    case round =>
      obtain ⟨k, hk, rfl, HE, hb⟩ := hrel
      by_cases hlt : k < n
      · obtain ⟨b1, o1, rfl, _, _⟩ := h.here (by omega)
        obtain ⟨b2, o2, rfl, _, _⟩ := g.here (by omega)
        obtain ⟨c0, c1, c2⟩ := h.at hb hlt
        obtain ⟨d0, d1, d2⟩ := g.at hb hlt
        have hki : (k : Int) < (n : Int) := by omega
        have HT : Hid (ra l k = ra r k → ∀ i, i < k + 1 → ra l i = ra r i) := fun e i hi => by
          by_cases e2 : i = k
          · rw [e2]; exact e
          · exact HE.out i (by omega)
        have HF : Hid (¬ ra l k = ra r k → false = samR l r) := fun e => (samR_f (fun e2 => e (by rw [e2]))).symm
        generalize ra l k = s at *
        generalize ra r k = t at *
        clear h g HE
        by_cases hs : s = t
        · subst hs
          have HT' := hid (HT.out rfl)
          obtain ⟨nm, ix, gn⟩ := s
          simp only at c0 c1 c2 d0 d1 d2
          clear HT HF
          go_wp2
          go_quiet (fail)
          go_wp2
          go_roundw
          case rel => exact ⟨k + 1, by omega, by go_num, HT', below_drewN hb _⟩
          case measure => simp [intOf]; omega
        · have HF' := hid (HF.out hs)
          have hd := rt_ne hs
          obtain ⟨nm, ix, gn⟩ := s
          obtain ⟨nm1, ix1, gn1⟩ := t
          simp only at c0 c1 c2 d0 d1 d2 hd
          clear HT HF hs
          rcases hd with h1 | ⟨rfl, h1⟩ | ⟨rfl, rfl, h1⟩
          · have hq := eqN_no h1
            have hq2 := eqN_no' h1
            clear h1
            go_wp2
            go_quiet (fail)
            go_wp2
            go_ret
            exact ⟨ret_bool HF'.out, below_drewN hb _⟩
          all_goals
            go_wp2
            go_quiet (fail)
            go_wp2
            go_ret
            exact ⟨ret_bool HF'.out, below_drewN hb _⟩
      · obtain rfl : k = n := by omega
        have HT : Hid (samR l r = true) := hid (samR_t (ext_ra (by omega) (fun i hi => HE.out i (by omega))))
        have hki : ¬ ((k : Int) < (k : Int)) := by omega
        go_wp2
        go_ret
        exact ⟨ret_bool HT.out.symm, hb⟩
  · have hne : ((n : Int) != (m : Int)) = true := by simp; omega
    have hf : samR l r = false := samR_f (fun e => hnm (by rw [← hl, ← hr, e]))
    rw [hf]
    clear h g
    go_enter Tryd.func13, Tryd.ntmps13
    go_wp2
    go_ret
    exact ⟨rfl, Below.refl _ _⟩
end Go.Proofs.YtmefepjjlhphnaaDoor
