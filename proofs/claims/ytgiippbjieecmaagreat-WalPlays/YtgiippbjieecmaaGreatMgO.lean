/- DiffP · Apply · Right: these texts, one behind another. -/
import Derived.Test.YtgiippbjieecmaaGreatChg
import Derived.Test.YtgiippbjieecmaaGreatSplice
/- Which lines are unlike; what changes make: plain facts. -/
namespace Go.Proofs.YtgiippbjieecmaaGreat
set_option maxRecDepth 100000
open Go.RowKit
set_option linter.unusedVariables false

/-- The changes of the first k lines. -/
def diffN (a b : List Int) : Nat → List Chg
  | 0 => []
  | k + 1 => diffN a b k ++ (if eqB (lin a k) (lin b k) = true then [] else [((k : Int), lin b k)])
theorem diffN_same {a b : List Int} {k : Nat} (h : eqB (lin a k) (lin b k) = true) : diffN a b (k + 1) = diffN a b k := by simp [diffN, h]
theorem diffN_else {a b : List Int} {k : Nat} (h : eqB (lin a k) (lin b k) = false) : diffN a b (k + 1) = diffN a b k ++ [((k : Int), lin b k)] := by simp [diffN, h]
theorem diffN_length (a b : List Int) (k : Nat) : (diffN a b k).length ≤ k := by
  induction k with
  | zero => simp [diffN]
  | succ k ih =>
    simp only [diffN, List.length_append]
    split <;> simp <;> omega
theorem part_lin {w : World} {b off n cap i : Nat} {zs : List Int} (h : Sl .u8 w (some ⟨b, off, none⟩) n cap zs) (hi : 64 * i + 64 ≤ n) : Sl .u8 w (some ⟨b, off + 64 * i, none⟩) 64 (cap - 64 * i) (lin zs i) := by
  have hr := h.room
  have := h.sliced (64 * i) (64 * i + 64) (by omega) hi
  rw [if_neg (by omega), show 64 * i + 64 - 64 * i = 64 by omega] at this
  simpa [Addr.add_lit, lin] using this
end Go.Proofs.YtgiippbjieecmaaGreat
/- lines.Apply by its contract. -/
namespace Go.Proofs.YtgiippbjieecmaaGreat
set_option maxRecDepth 100000
open Go.RowKit
set_option linter.unusedVariables false

/-- May they all be laid over N lines? -/
def okA (N : Nat) (cs : List Chg) : Bool := cs.all fun c => fitsB N c.1 c.2.length
/-- One is laid; all are. -/
def lay1 (a : List Int) (c : Chg) : List Int := splice a (64 * c.1.toNat) c.2
def layN (a : List Int) (cs : List Chg) : List Int := cs.foldl lay1 a
theorem okA_snoc (N : Nat) (cs : List Chg) (c : Chg) : okA N (cs ++ [c]) = (okA N cs && fitsB N c.1 c.2.length) := by simp [okA]
theorem okA_take {N : Nat} {cs : List Chg} (h : okA N cs = true) {c : Chg} (hc : c ∈ cs) : fitsB N c.1 c.2.length = true := by
  unfold okA at h
  rw [List.all_eq_true] at h
  exact h c hc
theorem layN_snoc (a : List Int) (cs : List Chg) (c : Chg) : layN a (cs ++ [c]) = lay1 (layN a cs) c := by simp [layN]
theorem says_mem (D : Nat → ChD) {k i : Nat} (h : i < k) : (D i).says ∈ saysN D k := List.mem_of_getElem? (saysN_get D h)
theorem okA_at {N m i : Nat} {D : Nat → ChD} (h : okA N (saysN D m) = true) (hi : i < m) : fitsB N (D i).line (D i).bz.length = true := okA_take h (says_mem D hi)
theorem okA_false {N m i : Nat} {D : Nat → ChD} (hi : i < m) (h : fitsB N (D i).line (D i).bz.length = false) : okA N (saysN D m) = false := by
  cases e : okA N (saysN D m) with
  | false => rfl
  | true => rw [okA_at e hi] at h; cases h

/-- A change of a slice, in a later world. -/
theorem Chs.later {w wr : World} {b off n : Nat} {D : Nat → ChD} (h : Chs w (some ⟨b, off, none⟩) n D) (hb : Below w.heap.size w wr) {k : Nat} (hk : k < n) :
    wr.cell? ⟨b, off + k * 2, none⟩ = some (.int .i64 (D k).line) ∧ wr.cell? ⟨b, off + k * 2 + 1, none⟩ = some (.slice (D k).ba (D k).bl (D k).bc) ∧ ChOk wr (D k) := by
  have h' := h.below hb
  obtain ⟨b', o', e, _, hc⟩ := h'.here (by omega)
  simp only [Option.some.injEq, Addr.mk.injEq, and_true] at e
  obtain ⟨rfl, rfl⟩ := e
  exact ⟨(hc k hk).1, (hc k hk).2, h'.ok k hk⟩

end Go.Proofs.YtgiippbjieecmaaGreat
/- lines.Right by its contract. -/
namespace Go.Proofs.YtgiippbjieecmaaGreat
set_option maxRecDepth 100000
open Go.RowKit
set_option linter.unusedVariables false

def aheadV (D : Nat → ChD) : Nat → Int
  | 0 => -1
  | k + 1 => (D k).line
/-- Is change k right, behind the ones ahead of it? -/
def rtD (n : Int) (D : Nat → ChD) (k : Nat) : Bool := fitsB n (D k).line (D k).bz.length && decide (aheadV D k < (D k).line)
def rightB (n : Int) (D : Nat → ChD) (m : Nat) : Bool := (List.range m).all (rtD n D)
theorem rightB_succ (n : Int) (D : Nat → ChD) (k : Nat) : rightB n D (k + 1) = (rightB n D k && rtD n D k) := by simp [rightB, List.range_succ]
theorem rightB_false {n : Int} {D : Nat → ChD} {k m : Nat} (hk : k < m) (h : rtD n D k = false) : rightB n D m = false := by
  cases e : rightB n D m with
  | false => rfl
  | true =>
    unfold rightB at e
    rw [List.all_eq_true] at e
    rw [e k (by simpa using hk)] at h
    cases h

set_option maxRecDepth 100000 in
theorem right_any (n : Int) (lo : Option Addr) (m lc : Nat) (D : Nat → ChD) (w : World) (h : Chs w lo m D) :
    Calls Tryz.prog 27 #[.int .i64 n, .slice lo m lc] w fun e w' => e = .returned (.bool (rightB n D m)) ∧ Below w.heap.size w w' := by
  have hm9 := h.fit
  go_enter Tryz.func27, Tryz.ntmps27
  go_wp2
  go_loopw [5, 10] (fun q t wr => ∃ k : Nat, k ≤ m ∧ t = .int .i64 k ∧ q = .int .i64 (aheadV D k) ∧ Hid (rightB n D k = true) ∧ Below w.heap.size w wr) (fun _ t _ => m - (intOf t).toNat)
  case atStart => exact ⟨0, Nat.zero_le _, rfl, rfl, hid rfl, Below.refl _ _⟩
  case round =>
    obtain ⟨k, hk, rfl, rfl, HK, hb⟩ := hrel
    by_cases hlt : k < m
    · obtain ⟨b1, o1, rfl, _, _⟩ := h.here (by omega)
      obtain ⟨c1, c2, ok⟩ := h.later hb hlt
      have hki : (k : Int) < (m : Int) := by omega
      have hfl := ok.bs.len
      have HT : Hid (fitsB n (D k).line (D k).bl = true → aheadV D k < (D k).line → rightB n D (k + 1) = true) := fun e e2 => by
        rw [rightB_succ, HK.out, rtD, hfl, e]; simpa using e2
      have HF : Hid (fitsB n (D k).line (D k).bl = false → rightB n D m = false) := fun e => rightB_false hlt (by rw [rtD, hfl, e]; rfl)
      have HG : Hid (¬ aheadV D k < (D k).line → rightB n D m = false) := fun e => rightB_false hlt (by rw [rtD]; simp [e])
      have HV : Hid (aheadV D (k + 1) = (D k).line) := hid rfl
      generalize aheadV D k = V at *
      obtain ⟨A, hA⟩ : ∃ A, A = D k := ⟨_, rfl⟩
      rw [← hA] at c1 c2 HT HF HG HV
      clear ok hfl hA h
      have hbA : Below w.heap.size w (wr.alloc (.cells #[.int .i64 A.line, .slice A.ba A.bl A.bc] 49)) := hb.alloc hb.size _
      have cA : (wr.alloc (.cells #[.int .i64 A.line, .slice A.ba A.bl A.bc] 49)).cell? ⟨wr.heap.size, 0, none⟩ = some (.int .i64 A.line) := by simp
      have lA : wr.heap.size < (wr.alloc (.cells #[.int .i64 A.line, .slice A.ba A.bl A.bc] 49)).heap.size := by simp
      by_cases hf : fitsB n A.line A.bl = true
      · by_cases hv : V < A.line
        · have hv' : ¬ A.line ≤ V := by omega
          go_wp2_with (first
            | (go_at_call 44; with_reducible refine (lfits_any n A.line A.ba A.bl A.bc _).mono ?_; rintro e w' ⟨rfl, hb2⟩; rw [hf]; have hb3 := next hbA hb2; have c3 := (hb2.cell (p := ⟨wr.heap.size, 0, none⟩) lA).trans cA))
          go_roundw
          case rel => exact ⟨k + 1, by omega, by go_num, by rw [HV.out], hid (HT.out hf hv), hb3⟩
          case measure => simp [intOf]; omega
        · have hv' : A.line ≤ V := by omega
          go_wp2_with (first
            | (go_at_call 44; with_reducible refine (lfits_any n A.line A.ba A.bl A.bc _).mono ?_; rintro e w' ⟨rfl, hb2⟩; rw [hf]; have hb3 := next hbA hb2; have c3 := (hb2.cell (p := ⟨wr.heap.size, 0, none⟩) lA).trans cA))
          go_ret
          exact ⟨ret_bool (HG.out hv).symm, hb3⟩
      · have hf' : fitsB n A.line A.bl = false := by simpa using hf
        go_wp2_with (first
          | (go_at_call 44; with_reducible refine (lfits_any n A.line A.ba A.bl A.bc _).mono ?_; rintro e w' ⟨rfl, hb2⟩; rw [hf']; have hb3 := next hbA hb2))
        go_ret
        exact ⟨ret_bool (HF.out hf').symm, hb3⟩
    · obtain rfl : k = m := by omega
      go_wp2
      go_ret
      exact ⟨ret_bool HK.out.symm, hb⟩
end Go.Proofs.YtgiippbjieecmaaGreat
