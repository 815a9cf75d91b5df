/- lines.Apply by its contract. -/
import Derived.Test.YtgiippbjieecmaaDiffP
import Derived.Test.YtgiippbjieecmaaSplice
namespace Go.Proofs.Ytgiippbjieecmaa
set_option maxRecDepth 100000
open Go.RowKit
set_option linter.unusedVariables false

/-- May they all be laid over N lines? -/
def okA (N : Nat) (cs : List Chg) : Bool := cs.all fun c => fitsB N c.1 c.2.length
/-- One is laid; all are. -/
def lay1 (a : List Int) (c : Chg) : List Int := splice a (64 * c.1.toNat) c.2
def layN (a : List Int) (cs : List Chg) : List Int := cs.foldl lay1 a
theorem okA_snoc (N : Nat) (cs : List Chg) (c : Chg) : okA N (cs ++ [c]) = (okA N cs && fitsB N c.1 c.2.length) := by simp [okA]
theorem okA_take {N : Nat} {cs : List Chg} (h : okA N cs = true) {c : Chg} (hc : c ∈ cs) : fitsB N c.1 c.2.length = true := by
  unfold okA at h
  rw [List.all_eq_true] at h
  exact h c hc
theorem layN_snoc (a : List Int) (cs : List Chg) (c : Chg) : layN a (cs ++ [c]) = lay1 (layN a cs) c := by simp [layN]
theorem says_mem (D : Nat → ChD) {k i : Nat} (h : i < k) : (D i).says ∈ saysN D k := List.mem_of_getElem? (saysN_get D h)
theorem okA_at {N m i : Nat} {D : Nat → ChD} (h : okA N (saysN D m) = true) (hi : i < m) : fitsB N (D i).line (D i).bz.length = true := okA_take h (says_mem D hi)
theorem okA_false {N m i : Nat} {D : Nat → ChD} (hi : i < m) (h : fitsB N (D i).line (D i).bz.length = false) : okA N (saysN D m) = false := by
  cases e : okA N (saysN D m) with
  | false => rfl
  | true => rw [okA_at e hi] at h; cases h

theorem apply_part (ao : Option Addr) (n cap : Nat) (lo : Option Addr) (m lc : Nat) (w : World) (hn : n ≤ 9223372036854775807) (h : ¬ n % 64 = 0) :
    Calls Try.prog 28 #[.slice ao n cap, .slice lo m lc] w fun e w' => e = .returned (.tuple #[.slice none 0 0, .int .i64 1]) ∧ w = w' := by
  have h2 : imgB n = false := by simp [imgB, h]
  go_enter Try.func28, Try.ntmps28
  go_wp2_with (go_at_call 55; with_reducible refine (isImage_any _ _ _ _ hn).mono ?_; rintro e w' ⟨rfl, rfl⟩; rw [h2])
  go_ret2
  exact ⟨rfl, rfl⟩

/-- A change of a slice, in a later world. -/
theorem Chs.later {w wr : World} {b off n : Nat} {D : Nat → ChD} (h : Chs w (some ⟨b, off, none⟩) n D) (hb : Below w.heap.size w wr) {k : Nat} (hk : k < n) :
    wr.cell? ⟨b, off + k * 2, none⟩ = some (.int .i64 (D k).line) ∧ wr.cell? ⟨b, off + k * 2 + 1, none⟩ = some (.slice (D k).ba (D k).bl (D k).bc) ∧ ChOk wr (D k) := by
  have h' := h.below hb
  obtain ⟨b', o', e, _, hc⟩ := h'.here (by omega)
  simp only [Option.some.injEq, Addr.mk.injEq, and_true] at e
  obtain ⟨rfl, rfl⟩ := e
  exact ⟨(hc k hk).1, (hc k hk).2, h'.ok k hk⟩

set_option maxRecDepth 100000 in
set_option maxHeartbeats 1000000 in
theorem apply_any (ao : Option Addr) (n cap : Nat) (xs : List Int) (lo : Option Addr) (m lc : Nat) (D : Nat → ChD) (w : World) (hx : Sl .u8 w ao n cap xs) (h : Chs w lo m D) (h64 : n % 64 = 0) (hn : n ≤ 140737488355328) :
    Calls Try.prog 28 #[.slice ao n cap, .slice lo m lc] w fun e w' => Below w.heap.size w w' ∧
      (okA (n / 64) (saysN D m) = false → e = .returned (.tuple #[.slice none 0 0, .int .i64 1])) ∧
      (okA (n / 64) (saysN D m) = true → ∃ g, e = .returned (.tuple #[.slice (some ⟨g, 0, none⟩) n n, .int .i64 0]) ∧ Own .u8 5 w.heap.size w' (some ⟨g, 0, none⟩) n n (layN xs (saysN D m))) := by
  have h9 : n ≤ 9223372036854775807 := by omega
  have h2 : imgB n = true := by simp [imgB, h64]
  have hm9 := h.fit
  have lx := hx.len
  obtain ⟨N, hN⟩ : ∃ N, n / 64 = N := ⟨_, rfl⟩
  rw [hN]
  go_enter Try.func28, Try.ntmps28
  go_wp2_with (first
    | (go_at_call 55; with_reducible refine (isImage_any _ _ _ _ h9).mono ?_; rintro e w' ⟨rfl, rfl⟩; rw [h2]))
  go_loopw [16] (fun t wr => ∃ k : Nat, k ≤ m ∧ t = .int .i64 k ∧ Hid (okA N (saysN D k) = true) ∧ Below w.heap.size w wr) (fun t _ => m - (intOf t).toNat)
  case atStart => exact ⟨0, Nat.zero_le _, rfl, hid rfl, Below.refl _ _⟩
  case round =>
    obtain ⟨k, hk, rfl, HK, hb⟩ := hrel
    by_cases hlt : k < m
    · obtain ⟨b1, o1, rfl, _, _⟩ := h.here (by omega)
      obtain ⟨c1, c2, ok⟩ := h.later hb hlt
      have hki : (k : Int) < (m : Int) := by omega
      have hfl := ok.bs.len
      have HT : Hid (fitsB N (D k).line (D k).bl = true → okA N (saysN D (k + 1)) = true) := fun e => by rw [saysN_succ, okA_snoc, HK.out, ChD.says, hfl, e]; rfl
      have HF : Hid (fitsB N (D k).line (D k).bl = false → okA N (saysN D m) = false) := fun e => okA_false hlt (by rw [hfl]; exact e)
      obtain ⟨A, hA⟩ : ∃ A, A = D k := ⟨_, rfl⟩
      rw [← hA] at c1 c2 HT HF
      clear ok hfl hA h hx
      have hbA : Below w.heap.size w (wr.alloc (.cells #[.int .i64 A.line, .slice A.ba A.bl A.bc] 65)).drew := (hb.alloc hb.size _).drew
      by_cases hf : fitsB N A.line A.bl = true
      · go_wp2
        go_region_with (first
          | (go_at_call 57; with_reducible refine (count_any _ _ _ _ h9).mono ?_; rintro e w' ⟨rfl, rfl⟩; rw [hN])
          | (go_at_call 56; with_reducible refine (lfits_any N A.line A.ba A.bl A.bc _).mono ?_; rintro e w' ⟨rfl, hb2⟩; rw [hf]; have hb3 := next hbA hb2))
        all_goals
          go_wp2
          go_roundw
          case rel => exact ⟨k + 1, by omega, by go_num, hid (HT.out hf), hb3⟩
          case measure => simp [intOf]; omega
      · have hf' : fitsB N A.line A.bl = false := by simpa using hf
        go_wp2
        go_region_with (first
          | (go_at_call 57; with_reducible refine (count_any _ _ _ _ h9).mono ?_; rintro e w' ⟨rfl, rfl⟩; rw [hN])
          | (go_at_call 56; with_reducible refine (lfits_any N A.line A.ba A.bl A.bc _).mono ?_; rintro e w' ⟨rfl, hb2⟩; rw [hf']; have hb3 := next hbA hb2))
        all_goals
          go_wp2
          go_ret2
          exact ⟨hb3, fun _ => rfl, fun e => by rw [HF.out hf'] at e; cases e⟩
    · obtain rfl : k = m := by omega
      have HA : Hid (okA N (saysN D k) = true) := HK
      have sx := hx.below hb
      go_wp2_with (first
        | (go_at_call 58; with_reducible refine (copied_any _ _ _ xs _ sx hn).mono ?_; rintro e w1 ⟨rfl, hcp, hb1⟩))
      obtain ⟨g, hg⟩ : ∃ g, g = wr.heap.size := ⟨_, rfl⟩
      have hgw : w.heap.size ≤ g := by rw [hg]; exact hb.size
      have hb1' := next hb hb1
      have hown0 : Own .u8 5 w.heap.size w1 (some ⟨g, 0, none⟩) n n xs := by rw [hg]; exact hcp.mono hb.size
      rw [← hg]
      clear hg hcp hb1 hb HK sx hx
      go_loopw [30] (fun t wr => ∃ j : Nat, j ≤ k ∧ t = .int .i64 j ∧ Own .u8 5 w.heap.size wr (some ⟨g, 0, none⟩) n n (layN xs (saysN D j)) ∧ Below w.heap.size w wr) (fun t _ => k - (intOf t).toNat)
      case atStart => exact ⟨0, Nat.zero_le _, rfl, hown0, hb1'⟩
      case round =>
        clear hown0 hb1'
        obtain ⟨j, hj, rfl, hown, hb⟩ := hrel
        by_cases hlj : j < k
        · obtain ⟨b1, o1, rfl, _, _⟩ := h.here (by omega)
          obtain ⟨c1, c2, ok⟩ := h.later hb hlj
          have hji : (j : Int) < (k : Int) := by omega
          have hf := fitsB_t (okA_at HA.out hlj)
          have hfl := ok.bs.len
          have HS : Hid (layN xs (saysN D (j + 1)) = lay1 (layN xs (saysN D j)) (D j).says) := hid (by rw [saysN_succ, layN_snoc])
          obtain ⟨A, hA⟩ : ∃ A, A = D j := ⟨_, rfl⟩
          rw [← hA] at c1 c2 HS hf hfl ok
          clear hA h
          obtain ⟨line, ba, bl, bc, bz⟩ := A
          simp only at c1 c2 hf hfl
          obtain ⟨q, rfl⟩ : ∃ q : Nat, line = q := ⟨line.toNat, by omega⟩
          obtain rfl : bl = 64 := by omega
          have hqn : 64 * q + 64 ≤ n := by omega
          have hbA : Below wr.heap.size wr (wr.alloc (.cells #[.int .i64 q, .slice ba 64 bc] 65)).drew := ((Below.refl _ _).alloc (Nat.le_refl _) _).drew
          have hownA := hown.below hbA
          have hslA : Sl .u8 _ ba 64 bc bz := ok.bs.below hbA
          have hszA := hbA.size
          have HB := hid (next hb hbA)
          clear ok
          have cL := line_any g 0 n n q (wr.alloc (.cells #[.int .i64 q, .slice ba 64 bc] 65)).drew hqn (Nat.le_refl _) h9
          rw [Nat.zero_add] at cL
          have nm : (Try.f59.name == "runtime.NumGoroutine") = false := by kernel_rfl
          have bd : Try.f59.body.isSome = true := by kernel_rfl
          have HL : Hid (splice (layN xs (saysN D j)) (64 * q) bz = layN xs (saysN D (j + 1))) := hid (by rw [HS.out]; rfl)
          generalize layN xs (saysN D j) = Z at *
          go_wp2
          go_region_law (first
            | (refine step_call2 rfl 59 (.tmp 34) (.tmp 36) #[27, 3] rfl Try.f59 Try.func59 nm bd (.slice (some ⟨g, 0, none⟩) n n) (.int .i64 q) rfl rfl (.slice (some ⟨g, 64 * q, none⟩) 64 (n - 64 * q)) (fun w' => (wr.alloc (.cells #[.int .i64 q, .slice ba 64 bc] 65)).drew = w') cL ?_; intro w' hw'; subst hw')
            | (refine step_copy_sl rfl (.tmp 37) (.tmp 39) rfl w.heap.size g (64 * q) 64 (n - 64 * q) n n 64 bc ba rfl rfl Z bz hownA hslA (by omega) (by omega) hqn ?_; intro w4 ho4 hg4 hs4))
          all_goals
            go_wp2
            go_roundw
            case rel => exact ⟨j + 1, by omega, by go_num, by rw [← HL.out]; exact ho4, HB.out.grown hg4 HB.out.size (by intro t ht; cases ht; exact hgw)⟩
            case measure => simp [intOf]; omega
        · obtain rfl : j = k := by omega
          go_wp2
          go_ret2
          exact ⟨hb, (fun e => by rw [HA.out] at e; cases e), fun _ => ⟨g, rfl, hown⟩⟩
end Go.Proofs.Ytgiippbjieecmaa
