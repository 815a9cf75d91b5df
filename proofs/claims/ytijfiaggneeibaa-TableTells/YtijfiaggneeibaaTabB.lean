/- table.Find, and the closure that goes through the open slots from behind, by their contracts. -/
import Derived.Test.YtijfiaggneeibaaTabA
import Derived.Deep.QuietTactic
import Derived.BigQuiet
import Derived.Deep.LoopGhost
namespace Go.Proofs.Ytijfiaggneeibaa
set_option maxRecDepth 100000
open Go.RowKit
set_option linter.unusedVariables false
set_option linter.unusedSimpArgs false
set_option maxRecDepth 100000

theorem find_tb (ao : Option Addr) (n cap : Nat) (l : List Slt) (I G : Int) (w : World) (h : Tb w ao n cap l) (hn : n ≤ 9223372036854775807) :
    Calls Try.prog 12 #[.slice ao n cap, .agg #[.int .i64 I, .int .i64 G]] w fun e w' => e = .returned (.tuple #[.int .i64 (fnI l I G), .bool (fnB l I G)]) ∧ Below w.heap.size w w' := by
  have hl := h.len
  have hbA : Below w.heap.size w (w.alloc (.cells #[.int .i64 I, .int .i64 G] 24)) := (Below.refl _ w).alloc (Nat.le_refl _) _
  by_cases hI : 0 ≤ I ∧ I < n
  · obtain ⟨k, rfl⟩ := Int.eq_ofNat_of_zero_le hI.1
    have hk : k < n := by omega
    obtain ⟨b, off, rfl, hbl, _⟩ := h.here (by omega)
    obtain ⟨c0, c1, c2, c3, c4⟩ := h.at hbA hk
    have hh := holds_tb (some ⟨b, off, none⟩) n cap k
    rw [decide_eq_true hI] at hh
    have HI : Hid (FnOk l k G ↔ (sg l k).live = true ∧ (sg l k).gen = G) := by
      refine hid ⟨fun h => by simpa using h.2.2, fun h => ⟨by omega, by rw [hl]; omega, by simpa using h.1, by simpa using h.2⟩⟩
    have hki : (k : Int) < (n : Int) := by omega
    generalize sg l k = s at *
    obtain ⟨g, lv, tw, p, ln⟩ := s
    simp only at c0 c1 c2 c3 c4 HI
    cases lv with
    | false =>
      obtain ⟨e1, e2⟩ := fn_f (l := l) (I := k) (G := G) (fun h => by have := (HI.out.1 h).1; cases this)
      rw [e1, e2]
      clear HI e1 e2 h
      go_enter Try.func12, Try.ntmps12
      go_wp2
      go_quiet ((go_at_call 35; refine quiet_same (hh _ hn)))
      go_wp2
      go_ret2
      exact ⟨rfl, below_drewN hbA _⟩
    | true =>
      by_cases hG : g = G
      · obtain ⟨e1, e2⟩ := fn_t (l := l) (I := k) (G := G) (HI.out.2 ⟨rfl, hG⟩)
        rw [e1, e2]
        have hG' : (g != G) = false := by simpa using hG
        clear HI e1 e2 h hG
        go_enter Try.func12, Try.ntmps12
        go_wp2
        go_quiet ((go_at_call 35; refine quiet_same (hh _ hn)))
        go_wp2
        go_ret2
        exact ⟨rfl, below_drewN hbA _⟩
      · obtain ⟨e1, e2⟩ := fn_f (l := l) (I := k) (G := G) (fun h => hG (HI.out.1 h).2)
        rw [e1, e2]
        have hG' : (g != G) = true := by simpa using hG
        clear HI e1 e2 h hG
        go_enter Try.func12, Try.ntmps12
        go_wp2
        go_quiet ((go_at_call 35; refine quiet_same (hh _ hn)))
        go_wp2
        go_ret2
        exact ⟨rfl, below_drewN hbA _⟩
  · have hh := holds_tb ao n cap I
    rw [decide_eq_false hI] at hh
    obtain ⟨e1, e2⟩ := fn_f (l := l) (I := I) (G := G) (fun h => hI ⟨h.1, by have := h.2.1; omega⟩)
    rw [e1, e2]
    clear e1 e2 h
    go_enter Try.func12, Try.ntmps12
    go_wp2
    go_quiet ((go_at_call 35; refine quiet_same (hh _ hn)))
    go_wp2
    go_ret2
    exact ⟨rfl, below_drewN hbA _⟩

/-- What the closure has caught: how far it has come, in kb; the table, in lb. -/
structure Beh (w : World) (kb lb : Nat) (ao : Option Addr) (n cap c : Nat) : Prop where
  ok : w.heap[kb]? = some (.cells #[.int .i64 (c : Int)] 3 (0, 0))
  ol : w.heap[lb]? = some (.cells #[.slice ao n cap] 22 (0, 0))
theorem Beh.ne {w : World} {kb lb : Nat} {ao : Option Addr} {n cap c : Nat} (h : Beh w kb lb ao n cap c) : kb ≠ lb := by
  rintro rfl
  have := h.ok.symm.trans h.ol
  simp at this
theorem Beh.below {w w' : World} {kb lb : Nat} {ao : Option Addr} {n cap c : Nat} (h : Beh w kb lb ao n cap c) (hb : Below w.heap.size w w') : Beh w' kb lb ao n cap c :=
  ⟨(hb.block kb (Array.getElem?_eq_some_iff.1 h.ok).1).trans h.ok, (hb.block lb (Array.getElem?_eq_some_iff.1 h.ol).1).trans h.ol⟩
theorem Beh.off {F : Nat → Prop} {w w' : World} {kb lb : Nat} {ao : Option Addr} {n cap c : Nat} (h : Beh w kb lb ao n cap c) (ho : Off F w w') (hk : ¬ F kb) (hl : ¬ F lb) : Beh w' kb lb ao n cap c :=
  ⟨(ho.block kb (Array.getElem?_eq_some_iff.1 h.ok).1 hk).trans h.ok, (ho.block lb (Array.getElem?_eq_some_iff.1 h.ol).1 hl).trans h.ol⟩
theorem Beh.cells {w : World} {kb lb : Nat} {ao : Option Addr} {n cap c : Nat} (h : Beh w kb lb ao n cap c) : w.cell? ⟨kb, 0, none⟩ = some (.int .i64 (c : Int)) ∧ w.frozen? ⟨kb, 0, none⟩ = false ∧ w.cell? ⟨lb, 0, none⟩ = some (.slice ao n cap) := by
  refine ⟨?_, frozen_of_row w kb 0 _ 3 h.ok, ?_⟩
  · rw [cell_of_row w kb 0 _ 3 (0, 0) h.ok]; rfl
  · rw [cell_of_row w lb 0 _ 22 (0, 0) h.ol]; rfl
theorem Beh.set {w : World} {kb lb : Nat} {ao : Option Addr} {n cap c : Nat} (h : Beh w kb lb ao n cap c) (d : Nat) : Beh (w.setCell ⟨kb, 0, none⟩ (.int .i64 (d : Int))) kb lb ao n cap d := by
  refine ⟨?_, ?_⟩
  · rw [heap_setCell_same w kb 0 _ 3 _ h.ok]; rfl
  · rw [heap_setCell_other w ⟨kb, 0, none⟩ lb _ (fun e => h.ne e.symm)]; exact h.ol
def behV (kb lb : Nat) : Value := .func (.func 48) #[] #[.pointer (some ⟨kb, 0, none⟩), .pointer (some ⟨lb, 0, none⟩)]
theorem behind_any (ao : Option Addr) (n cap : Nat) (w : World) (hn : n ≤ 9223372036854775807) :
    Calls Try.prog 36 #[.slice ao n cap] w fun e w' => e = .returned (.func (.func 48) #[] #[.pointer (some ⟨w.heap.size + 1, 0, none⟩), .pointer (some ⟨w.heap.size, 0, none⟩)]) ∧ Beh w' (w.heap.size + 1) w.heap.size ao n cap n ∧ Below w.heap.size w w' := by
  have hbA : Below w.heap.size w (w.alloc (.cells #[.slice ao n cap] 22)) := (Below.refl _ w).alloc (Nat.le_refl _) _
  have hbB : Below w.heap.size w ((w.alloc (.cells #[.slice ao n cap] 22)).alloc (.cells #[.int .i64 n] 3)) := hbA.alloc (by simp) _
  have hB : Beh ((w.alloc (.cells #[.slice ao n cap] 22)).alloc (.cells #[.int .i64 n] 3)) (w.heap.size + 1) w.heap.size ao n cap n := by
    refine ⟨?_, ?_⟩
    · have e := heap_alloc_new (w.alloc (.cells #[.slice ao n cap] 22)) (.cells #[.int .i64 n] 3)
      rw [show (w.alloc (.cells #[.slice ao n cap] 22)).heap.size = w.heap.size + 1 by simp] at e
      exact e
    · rw [heap_alloc_old (w.alloc (.cells #[.slice ao n cap] 22)) (.cells #[.int .i64 n] 3) (show w.heap.size < _ by simp)]
      exact heap_alloc_new w _
  go_enter Try.func36, Try.ntmps36
  go_wp2
  go_ret
  exact ⟨rfl, hB, hbB⟩
def lastC (l : List Slt) (c : Nat) : Nat := (lastO l c).getD 0
def lastB (l : List Slt) (c : Nat) : Bool := (lastO l c).isSome
theorem last_some {l : List Slt} {c j : Nat} (h : lastO l c = some j) : lastC l c = j ∧ lastB l c = true := by simp [lastC, lastB, h]
theorem last_none {l : List Slt} {c : Nat} (h : lastO l c = none) : lastC l c = 0 ∧ lastB l c = false := by simp [lastC, lastB, h]
theorem last_no {l : List Slt} {k : Nat} (h : openB (sg l k) = false) : lastC l (k + 1) = lastC l k ∧ lastB l (k + 1) = lastB l k := by simp [lastC, lastB, lastO_no h]
theorem beh_any (kb lb : Nat) (ao : Option Addr) (n cap c : Nat) (l : List Slt) (w : World) (hB : Beh w kb lb ao n cap c) (h : Tb w ao n cap l) (hc : c ≤ n) (hn : n ≤ 9223372036854775807) (hne : 0 < n → ∀ a, ao = some a → a.block ≠ kb) :
    Calls Try.prog 48 #[.pointer (some ⟨kb, 0, none⟩), .pointer (some ⟨lb, 0, none⟩)] w fun e w' => e = .returned (.tuple #[.int .i64 (lastC l c : Int), .bool (lastB l c)]) ∧ Beh w' kb lb ao n cap (lastC l c) ∧ Off (fun j => j = kb) w w' := by
  have hl := h.len
  have hkb : kb < w.heap.size := (Array.getElem?_eq_some_iff.1 hB.ok).1
  obtain ⟨q0, q1, q2⟩ := hB.cells
  go_enter Try.func48, Try.ntmps48
  go_wp2
  go_loopg [] c (fun d wr => ∃ k : Nat, k = d ∧ k ≤ c ∧ Hid (Beh wr kb lb ao n cap k) ∧ Hid (lastC l k = lastC l c ∧ lastB l k = lastB l c) ∧ Hid (Off (fun j => j = kb) w wr))
  case atStart => exact ⟨c, rfl, Nat.le_refl _, hid hB, hid ⟨rfl, rfl⟩, hid (Off.refl _ _)⟩
  case round =>
    obtain ⟨k, rfl, hk, HB, HL, HO⟩ := hrel
    obtain ⟨q0, q1, q2⟩ := HB.out.cells
    by_cases hlt : 0 < k
    · obtain ⟨m, rfl⟩ : ∃ m, k = m + 1 := ⟨k - 1, by omega⟩
      obtain ⟨b, off, rfl, hbl, _⟩ := h.here (by omega)
      have hnb : b ≠ kb := hne (by omega) _ rfl
      have hB2 := HB.out.set m
      have ho2 : Off (fun j => j = kb) w (wr.setCell ⟨kb, 0, none⟩ (.int .i64 (m : Int))) := HO.out.setCell _ _ rfl
      have hT2 := h.off ho2 (fun _ c e => by cases e; exact hnb)
      obtain ⟨r0, r1, r2⟩ := hB2.cells
      obtain ⟨c0, c1, c2, c3, c4⟩ := hT2.at (Below.refl _ _) (i := m) (by omega)
      have HB2 := hid hB2
      have HO2 := hid ho2
      have hmi : (m : Int) < (n : Int) := by omega
      have hpos : (0 : Int) < ((m + 1 : Nat) : Int) := by omega
      have hsub : ((m + 1 : Nat) : Int) - 1 = (m : Int) := by omega
      have cO := open_any (sg l m)
      have HY : Hid (openB (sg l m) = true → lastC l c = m ∧ lastB l c = true) := fun e => by
        obtain ⟨e1, e2⟩ := last_some (lastO_yes e)
        rw [← HL.out.1, ← HL.out.2]
        exact ⟨e1, e2⟩
      have HN : Hid (openB (sg l m) = false → lastC l m = lastC l c ∧ lastB l m = lastB l c) := fun e => by
        obtain ⟨e1, e2⟩ := last_no e
        exact ⟨e1.symm.trans HL.out.1, e2.symm.trans HL.out.2⟩
      clear hB2 ho2 hT2 h hB HL HB
      generalize sg l m = s at *
      obtain ⟨g, lv, tw, p, ln⟩ := s
      simp only at c0 c1 c2 c3 c4 cO
      generalize ((m + 1 : Nat) : Int) = M at *
      by_cases ho : openB ⟨g, lv, tw, p, ln⟩ = true
      · rw [ho] at cO
        go_wp2_with (go_at_call 49; with_reducible refine (cO _).mono ?_; rintro e w3 ⟨rfl, hb3⟩; obtain ⟨t0, t1, t2⟩ := (HB2.out.below hb3).cells)
        go_ret2
        obtain ⟨e1, e2⟩ := HY.out ho
        rw [e1, e2]
        exact ⟨rfl, HB2.out.below hb3, HO2.out.trans (Off.of_below (F := fun _ => False) hb3) (fun _ h => h.elim)⟩
      · have ho' : openB ⟨g, lv, tw, p, ln⟩ = false := by simpa using ho
        rw [ho'] at cO
        go_wp2_with (go_at_call 49; with_reducible refine (cO _).mono ?_; rintro e w3 ⟨rfl, hb3⟩)
        go_roundg m
        case measure => omega
        case rel => exact ⟨m, rfl, by omega, hid (HB2.out.below hb3), hid (HN.out ho'), hid (HO2.out.trans (Off.of_below (F := fun _ => False) hb3) (fun _ h => h.elim))⟩
    · obtain rfl : k = 0 := by omega
      go_wp2
      go_ret2
      obtain ⟨e1, e2⟩ := HL.out
      rw [← e1, ← e2]
      exact ⟨rfl, HB.out, HO.out⟩
end Go.Proofs.Ytijfiaggneeibaa
