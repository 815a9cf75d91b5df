/- joistref04.Same by its contract. -/
import Derived.Test.YtgiippbjieecmaaDiffP
import Derived.BigQuiet
namespace Go.Proofs.Ytgiippbjieecmaa
set_option maxRecDepth 100000
open Go.RowKit
set_option linter.unusedVariables false

def sameB (a b : List Chg) : Bool := decide (a = b)
theorem sameB_t {a b : List Chg} (h : a = b) : sameB a b = true := by simp [sameB, h]
theorem sameB_f {a b : List Chg} (h : ¬ a = b) : sameB a b = false := by simp [sameB, h]
theorem says_ne {D E : Nat → ChD} {n m i : Nat} (hi : i < n) (hj : i < m) (h : ¬ (D i).says = (E i).says) : sameB (saysN D n) (saysN E m) = false := by
  refine sameB_f fun e => h ?_
  have h1 := saysN_get D hi
  rw [e, saysN_get E hj] at h1
  exact (Option.some.inj h1).symm

set_option maxRecDepth 100000 in
theorem refsame_any (ao : Option Addr) (n cap : Nat) (D : Nat → ChD) (bo : Option Addr) (m c : Nat) (E : Nat → ChD) (w : World) (h : Chs w ao n D) (g : Chs w bo m E) :
    Calls Try.prog 21 #[.slice ao n cap, .slice bo m c] w fun e w' => e = .returned (.bool (sameB (saysN D n) (saysN E m))) ∧ Below w.heap.size w w' := by
  have f1 := h.fit
  have f2 := g.fit
  by_cases hnm : n = m
  · subst hnm
    go_enter Try.func21, Try.ntmps21
    go_wp2
    go_loopw [5] (fun t wr => ∃ k : Nat, k ≤ n ∧ t = .int .i64 k ∧ Hid (saysN D k = saysN E k) ∧ Below w.heap.size w wr) (fun t _ => n - (intOf t).toNat)
    case atStart => exact ⟨0, Nat.zero_le _, rfl, hid rfl, Below.refl _ _⟩
    case round =>
      obtain ⟨k, hk, rfl, HE, hb⟩ := hrel
      by_cases hlt : k < n
      · obtain ⟨b1, o1, rfl, l1, hc1⟩ := h.here (by omega)
        obtain ⟨b2, o2, rfl, l2, hc2⟩ := g.here (by omega)
        obtain ⟨c1, c2⟩ := hc1 k hlt
        obtain ⟨c3, c4⟩ := hc2 k hlt
        have ok1 := (h.ok k hlt).below hb
        have ok2 := (g.ok k hlt).below hb
        have c1' : wr.cell? ⟨b1, o1 + k * 2, none⟩ = _ := (hb.cell (p := ⟨b1, o1 + k * 2, none⟩) l1).trans c1
        have c2' : wr.cell? ⟨b1, o1 + k * 2 + 1, none⟩ = _ := (hb.cell (p := ⟨b1, o1 + k * 2 + 1, none⟩) l1).trans c2
        have c3' : wr.cell? ⟨b2, o2 + k * 2, none⟩ = _ := (hb.cell (p := ⟨b2, o2 + k * 2, none⟩) l2).trans c3
        have c4' : wr.cell? ⟨b2, o2 + k * 2 + 1, none⟩ = _ := (hb.cell (p := ⟨b2, o2 + k * 2 + 1, none⟩) l2).trans c4
        have HT : Hid ((D k).says = (E k).says → saysN D (k + 1) = saysN E (k + 1)) := fun e => by rw [saysN_succ, saysN_succ, HE.out, e]
        have HF : Hid (¬ (D k).says = (E k).says → sameB (saysN D n) (saysN E n) = false) := says_ne hlt hlt
        obtain ⟨A, hA⟩ : ∃ A, A = D k := ⟨_, rfl⟩
        obtain ⟨A', hA'⟩ : ∃ A', A' = E k := ⟨_, rfl⟩
        rw [← hA] at c1' c2' ok1 HT HF
        rw [← hA'] at c3' c4' ok2 HT HF
        have tx := fun q => (ok1.bs.below (below_drewN (Below.refl _ _) q)).text (P := Try.prog) Try.underlying27 Try.underlying5 Try.underlying9
        have ty := fun q => (ok2.bs.below (below_drewN (Below.refl _ _) q)).text (P := Try.prog) Try.underlying27 Try.underlying5 Try.underlying9
        have heq := text_eq ok1.by_ ok2.by_
        clear hc1 hc2 c1 c2 c3 c4 h g ok1 ok2 hA hA'
        have hki : (k : Int) < (n : Int) := by omega
        by_cases hl : A.line = A'.line
        · have hl' : (A.line != A'.line) = false := by simpa using hl
          by_cases hz : A.bz = A'.bz
          · have hz' : ((strOfNums A.bz).toList == (strOfNums A'.bz).toList) = true := by rw [heq]; simpa using hz
            clear heq
            go_wp2
            go_quiet (fail)
            go_wp2
            go_roundw
            case rel => exact ⟨k + 1, by omega, by go_num, hid (HT.out (by simp only [ChD.says, hl, hz])), below_drewN hb _⟩
            case measure => simp [intOf]; omega
          · have hz' : ((strOfNums A.bz).toList == (strOfNums A'.bz).toList) = false := by rw [heq]; simpa using hz
            clear heq
            go_wp2
            go_quiet (fail)
            go_wp2
            go_ret
            exact ⟨ret_bool (HF.out (fun e => hz (congrArg Prod.snd e))).symm, below_drewN hb _⟩
        · have hl' : (A.line != A'.line) = true := by simpa using hl
          clear heq
          go_wp2
          go_quiet (fail)
          go_wp2
          go_ret
          exact ⟨ret_bool (HF.out (fun e => hl (congrArg Prod.fst e))).symm, below_drewN hb _⟩
      · obtain rfl : k = n := by omega
        go_wp2
        go_ret
        exact ⟨ret_bool (sameB_t HE.out).symm, hb⟩
  · have hne : ((n : Int) != (m : Int)) = true := by simp; omega
    go_enter Try.func21, Try.ntmps21
    go_wp2
    go_ret
    refine ⟨ret_bool (sameB_f fun e => hnm ?_).symm, Below.refl _ _⟩
    have := congrArg List.length e
    rwa [saysN_length, saysN_length] at this
end Go.Proofs.Ytgiippbjieecmaa
