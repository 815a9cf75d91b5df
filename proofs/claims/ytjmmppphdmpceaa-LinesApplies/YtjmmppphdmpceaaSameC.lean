/- lines.Same by its contract. -/
import Derived.Test.YtjmmppphdmpceaaRefSameC
import Derived.Test.YtjmmppphdmpceaaApply
namespace Go.Proofs.Ytjmmppphdmpceaa
open Go.RowKit
set_option linter.unusedVariables false

def sayB (A B : ChD) : Bool := decide (A.says = B.says)
set_option maxRecDepth 100000 in
theorem same1_any (A B : ChD) (w : World) (hA : ChOk w A) (hB : ChOk w B) :
    Calls Try.prog 29 #[.agg #[.int .i64 A.line, .slice A.ba A.bl A.bc], .agg #[.int .i64 B.line, .slice B.ba B.bl B.bc]] w fun e w' => e = .returned (.bool (sayB A B)) ∧ Below w.heap.size w w' := by
  have hbA : Below w.heap.size w ((w.alloc (.cells #[.int .i64 A.line, .slice A.ba A.bl A.bc] 42)).alloc (.cells #[.int .i64 B.line, .slice B.ba B.bl B.bc] 42)) := ((Below.refl _ _).alloc (Nat.le_refl _) _).alloc (by simp) _
  have sA := hA.bs.below hbA
  have sB := hB.bs.below hbA
  have yA := hA.by_
  have yB := hB.by_
  clear hA hB
  by_cases hl : A.line = B.line
  · have hl' : (A.line == B.line) = true := by simpa using hl
    have he : eqB A.bz B.bz = sayB A B := by simp [eqB, sayB, ChD.says, hl]
    clear hl
    go_enter Try.func29, Try.ntmps29
    go_wp2_with (go_at_call 25; with_reducible refine (equal_any _ _ _ A.bz _ _ _ B.bz _ sA sB yA yB).mono ?_; rintro e w' ⟨rfl, rfl⟩; rw [he])
    go_ret
    exact ⟨rfl, hbA⟩
  · have hl' : (A.line == B.line) = false := by simpa using hl
    have he : Hid (false = sayB A B) := hid (by simp [sayB, ChD.says, hl])
    clear hl
    go_enter Try.func29, Try.ntmps29
    go_wp2
    go_ret
    exact ⟨ret_bool he.out, hbA⟩

set_option maxRecDepth 100000 in
theorem equalFunc_any (ao : Option Addr) (n cap : Nat) (D : Nat → ChD) (bo : Option Addr) (m c : Nat) (E : Nat → ChD) (w : World) (h : Chs w ao n D) (g : Chs w bo m E) :
    Calls Try.prog 28 #[.slice ao n cap, .slice bo m c, .func (.func 29) #[] #[]] w fun e w' => e = .returned (.bool (sameB (saysN D n) (saysN E m))) ∧ Below w.heap.size w w' := by
  have f1 := h.fit
  have f2 := g.fit
  by_cases hnm : n = m
  · subst hnm
    go_enter Try.func28, Try.ntmps28
    go_wp2
    go_loopw [17] (fun t wr => ∃ k : Nat, k ≤ n ∧ t = .int .i64 k ∧ Hid (saysN D k = saysN E k) ∧ Below w.heap.size w wr) (fun t _ => n - (intOf t).toNat)
    case atStart => exact ⟨0, Nat.zero_le _, rfl, hid rfl, Below.refl _ _⟩
    case round =>
      obtain ⟨k, hk, rfl, HE, hb⟩ := hrel
      by_cases hlt : k < n
      · obtain ⟨b1, o1, rfl, l1, _⟩ := h.here (by omega)
        obtain ⟨b2, o2, rfl, l2, _⟩ := g.here (by omega)
        have hb2 : Below w.heap.size w (wr.alloc (.cells #[.int .i64 (D k).line, .slice (D k).ba (D k).bl (D k).bc] 42)) := hb.alloc hb.size _
        obtain ⟨c1, c2, _⟩ := h.later hb hlt
        obtain ⟨c3, c4, _⟩ := g.later hb2 hlt
        have hbB : Below w.heap.size w ((wr.alloc (.cells #[.int .i64 (D k).line, .slice (D k).ba (D k).bl (D k).bc] 42)).alloc (.cells #[.int .i64 (E k).line, .slice (E k).ba (E k).bl (E k).bc] 42)) := hb2.alloc hb2.size _
        obtain ⟨_, _, ok1⟩ := h.later hbB hlt
        obtain ⟨_, _, ok2⟩ := g.later hbB hlt
        have HT : Hid ((D k).says = (E k).says → saysN D (k + 1) = saysN E (k + 1)) := fun e => by rw [saysN_succ, saysN_succ, HE.out, e]
        have HF : Hid (¬ (D k).says = (E k).says → sameB (saysN D n) (saysN E n) = false) := says_ne hlt hlt
        have cS := same1_any (D k) (E k) _ ok1 ok2
        have hs1 : wr.heap.size ≠ b1 := by have := hb.size; omega
        have hs2 : wr.heap.size ≠ b2 := by have := hb.size; omega
        obtain ⟨A, hA⟩ : ∃ A, A = D k := ⟨_, rfl⟩
        obtain ⟨A', hA'⟩ : ∃ A', A' = E k := ⟨_, rfl⟩
        rw [← hA] at c1 c2 c3 c4 HT HF cS hbB hb2
        rw [← hA'] at c3 c4 HT HF cS hbB
        clear hA hA' h g ok1 ok2 l1 l2
        have hki : (k : Int) < (n : Int) := by omega
        by_cases hq : A.says = A'.says
        · have hq' : sayB A A' = true := by simpa [sayB] using hq
          rw [hq'] at cS
          go_wp2_with (go_at_call 29; with_reducible refine cS.mono ?_; rintro e w3 ⟨rfl, hb3⟩)
          go_roundw
          case rel => exact ⟨k + 1, by omega, by go_num, hid (HT.out hq), next hbB hb3⟩
          case measure => simp [intOf]; omega
        · have hq' : sayB A A' = false := by simpa [sayB] using hq
          rw [hq'] at cS
          go_wp2_with (go_at_call 29; with_reducible refine cS.mono ?_; rintro e w3 ⟨rfl, hb3⟩)
          go_ret
          exact ⟨ret_bool (HF.out hq).symm, next hbB hb3⟩
      · obtain rfl : k = n := by omega
        go_wp2
        go_ret
        exact ⟨ret_bool (sameB_t HE.out).symm, hb⟩
  · have hne : ((n : Int) != (m : Int)) = true := by simp; omega
    go_enter Try.func28, Try.ntmps28
    go_wp2
    go_ret
    refine ⟨ret_bool (sameB_f fun e => hnm ?_).symm, Below.refl _ _⟩
    have := congrArg List.length e
    rwa [saysN_length, saysN_length] at this
theorem same_chs (ao : Option Addr) (n cap : Nat) (D : Nat → ChD) (bo : Option Addr) (m c : Nat) (E : Nat → ChD) (w : World) (h : Chs w ao n D) (g : Chs w bo m E) :
    Calls Try.prog 21 #[.slice ao n cap, .slice bo m c] w fun e w' => e = .returned (.bool (sameB (saysN D n) (saysN E m))) ∧ Below w.heap.size w w' := by
  go_enter Try.func21, Try.ntmps21
  go_wp2_with (go_at_call 28; with_reducible refine (equalFunc_any ao n cap D bo m c E _ h g).mono ?_; rintro e w' ⟨rfl, hb⟩)
  go_ret
  exact ⟨rfl, hb⟩
end Go.Proofs.Ytjmmppphdmpceaa
