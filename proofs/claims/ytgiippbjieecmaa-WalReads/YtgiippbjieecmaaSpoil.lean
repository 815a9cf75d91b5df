/- joistlaw04.Spoil by its contract. -/
import Derived.Test.YtgiippbjieecmaaMgI
import Derived.Test.YtgiippbjieecmaaChg
namespace Go.Proofs.Ytgiippbjieecmaa
set_option maxRecDepth 100000
open Go.RowKit
set_option linter.unusedVariables false

/-- Block g is a row of n changes; each one's bytes are a row of their own. -/
structure Sp (w : World) (B g n : Nat) (D : Nat → ChD) : Prop where
  row : ∃ cur : Array Value, w.heap[g]? = some (.cells cur 65 (0, 0)) ∧ ∀ j, j < n → (∃ v, cur[j * 2]? = some v) ∧ cur[j * 2 + 1]? = some (.slice (D j).ba (D j).bl (D j).bc)
  bs : ∀ j, j < n → Rowd w B (D j).ba (D j).bl (D j).bc (blk (D j).ba)
theorem Sp.below {w w' : World} {B g n : Nat} {D : Nat → ChD} (h : Sp w B g n D) (hb : Below w.heap.size w w') : Sp w' B g n D := by
  obtain ⟨⟨cur, hg, hc⟩, bs⟩ := h
  exact ⟨⟨cur, by rw [hb.block g (Array.getElem?_eq_some_iff.1 hg).1]; exact hg, hc⟩, fun j hj => (bs j hj).below hb⟩
theorem Sp.ne {w : World} {B g n : Nat} {D : Nat → ChD} (h : Sp w B g n D) {j : Nat} (hj : j < n) (hc : 0 < (D j).bc) : blk (D j).ba ≠ g := by
  obtain ⟨⟨cur, hg, _⟩, bs⟩ := h
  obtain ⟨cur', h1, _⟩ := (bs j hj).fill hc
  intro e
  rw [e, hg] at h1
  simp at h1
theorem Sp.owned {w w' : World} {B g n i : Nat} {D : Nat → ChD} (h : Sp w B g n D) (hi : i < n) (ho : Off (fun k => k = blk (D i).ba ∧ 0 < (D i).bc) w w') (hf : 0 < (D i).bc → ∃ cur : Array Value, w'.heap[blk (D i).ba]? = some (.cells cur 5 (0, 0)) ∧ cur.size = (D i).bc) : Sp w' B g n D := by
  have hne := @Sp.ne _ _ _ _ _ h
  obtain ⟨⟨cur, hg, hc⟩, bs⟩ := h
  refine ⟨⟨cur, by rw [ho.block g (Array.getElem?_eq_some_iff.1 hg).1 (fun e => hne hi e.2 e.1.symm)]; exact hg, hc⟩, fun j hj => ?_⟩
  have hr := bs j hj
  refine ⟨hr.fits, fun hcj => ?_, fun hcj => ?_⟩
  · obtain ⟨a, b, d⟩ := hr.spot hcj
    exact ⟨a, b, Nat.lt_of_lt_of_le d ho.size⟩
  · by_cases e : blk (D j).ba = blk (D i).ba ∧ 0 < (D i).bc
    · obtain ⟨c1, q1, q2⟩ := hr.fill hcj
      obtain ⟨c2, q3, q4⟩ := (bs i hi).fill e.2
      obtain ⟨c3, q5, q6⟩ := hf e.2
      rw [e.1, q3] at q1
      cases q1
      rw [e.1]
      exact ⟨c3, q5, by omega⟩
    · rw [ho.block _ (hr.spot hcj).2.2 e]
      exact hr.fill hcj
theorem Sp.set {w : World} {B g n k : Nat} {D : Nat → ChD} (h : Sp w B g n D) (hk : k < n) (v : Value) : Sp (w.setCell ⟨g, k * 2, none⟩ v) B g n D := by
  have hne := @Sp.ne _ _ _ _ _ h
  obtain ⟨⟨cur, hg, hc⟩, bs⟩ := h
  refine ⟨⟨_, heap_setCell_same w g (k * 2) cur 65 _ hg, fun j hj => ⟨?_, ?_⟩⟩, fun j hj => ?_⟩
  · rw [Array.getElem?_setIfInBounds]
    by_cases e : k * 2 = j * 2
    · rw [if_pos e]
      obtain ⟨v', hv'⟩ := (hc k hk).1
      rw [if_pos (Array.getElem?_eq_some_iff.1 hv').1]
      exact ⟨_, rfl⟩
    · rw [if_neg e]
      exact (hc j hj).1
  · rw [Array.getElem?_setIfInBounds, if_neg (by omega)]
    exact (hc j hj).2
  · have hr := bs j hj
    refine ⟨hr.fits, fun hcj => ?_, fun hcj => ?_⟩
    · obtain ⟨a, b, d⟩ := hr.spot hcj
      exact ⟨a, b, by simpa [World.setCell] using d⟩
    · rw [heap_setCell_other w ⟨g, k * 2, none⟩ _ v (hne hj hcj)]
      exact hr.fill hcj
theorem Sp.spot {w : World} {B g n k : Nat} {D : Nat → ChD} (h : Sp w B g n D) (hk : k < n) : ∃ v, w.cell? ⟨g, k * 2, none⟩ = some v ∧ w.frozen? ⟨g, k * 2, none⟩ = false := by
  obtain ⟨⟨cur, hg, hc⟩, bs⟩ := h
  obtain ⟨v, hv⟩ := (hc k hk).1
  exact ⟨v, by rw [cell_of_row w g _ cur 65 (0, 0) hg]; exact hv, frozen_of_row w g (k * 2) cur 65 hg⟩
theorem OwnC.sp {B : Nat} {w : World} {ao : Option Addr} {n cap : Nat} {D : Nat → ChD} (h : OwnC B w ao n cap D) (hn : 0 < n) : ∃ g, ao = some ⟨g, 0, none⟩ ∧ B ≤ g ∧ Sp w B g n D := by
  rcases h.row.2 with ⟨hv, h0⟩ | ⟨g, cap', cur, hv, hg, hh, hc, hm, hs, ht⟩
  · omega
  · simp only [Value.slice.injEq] at hv
    obtain ⟨rfl, _, rfl⟩ := hv
    refine ⟨g, rfl, hg, ⟨cur, hh, fun j hj => ?_⟩, fun j hj => (h.own j hj).1.rowb⟩
    obtain ⟨c1, c2⟩ := cellsN_get D hj
    rw [← ht, List.getElem?_take, if_pos (by omega), Array.getElem?_toList] at c1 c2
    exact ⟨⟨_, c1⟩, c2⟩

theorem spoil_any (B : Nat) (ao : Option Addr) (n cap : Nat) (D : Nat → ChD) (w : World) (h : OwnC B w ao n cap D) (hB : B ≤ w.heap.size) :
    Calls Try.prog 22 #[.slice ao n cap] w fun e w' => e = .returned (.tuple #[]) ∧ Below B w w' := by
  have hfit := h.fit
  have hsp : ∃ g, 0 < n → ao = some ⟨g, 0, none⟩ ∧ B ≤ g ∧ Sp w B g n D := by
    by_cases hn : 0 < n
    · obtain ⟨g, h1⟩ := h.sp hn
      exact ⟨g, fun _ => h1⟩
    · exact ⟨0, fun h => absurd h hn⟩
  obtain ⟨g, hg⟩ := hsp
  clear h
  go_enter Try.func22, Try.ntmps22
  go_wp2
  go_loopw [2] (fun t wr => ∃ k : Nat, k ≤ n ∧ t = .int .i64 k ∧ (0 < n → Sp wr B g n D) ∧ Below B w wr) (fun t _ => n - (intOf t).toNat)
  case atStart => exact ⟨0, Nat.zero_le _, rfl, fun hn => (hg hn).2.2, Below.refl _ _⟩
  case round =>
    obtain ⟨k, hk, rfl, hs, hb⟩ := hrel
    by_cases hlt : k < n
    · obtain ⟨rfl, hBg, _⟩ := hg (by omega)
      have hsp := hs (by omega)
      have hki : (k : Int) < (n : Int) := by omega
      obtain ⟨cur, hrow, hcur⟩ := hsp.row
      have hc1 : wr.cell? ⟨g, k * 2 + 1, none⟩ = some (.slice (D k).ba (D k).bl (D k).bc) := by
        rw [cell_of_row wr g _ cur 65 (0, 0) hrow]; exact (hcur k hlt).2
      have hr := hsp.bs k hlt
      have hbA : Below wr.heap.size wr (wr.alloc (.cells #[.slice (D k).ba (D k).bl (D k).bc] 27)) := (Below.refl _ _).alloc (Nat.le_refl _) _
      have hspA := hsp.below hbA
      have cO := owned_one hr
      have hBr : B ≤ wr.heap.size := Nat.le_trans hB hb.size
      have HK : Hid (∀ j, j = blk (D k).ba ∧ 0 < (D k).bc → B ≤ j) := fun j hj => by rw [hj.1]; exact (hr.spot hj.2).2.1
      have HO : Hid (∀ w', Off (fun q => q = blk (D k).ba ∧ 0 < (D k).bc) (wr.alloc (.cells #[.slice (D k).ba (D k).bl (D k).bc] 27)) w' → (0 < (D k).bc → ∃ cur : Array Value, w'.heap[blk (D k).ba]? = some (.cells cur 5 (0, 0)) ∧ cur.size = (D k).bc) → Sp w' B g n D) := fun w' ho hf => hspA.owned hlt ho hf
      clear hcur hrow hsp hs hr hspA hg
      generalize (D k).ba = A at *
      generalize (D k).bl = L at *
      generalize (D k).bc = C at *
      go_wp2_with (first
        | (go_at_call 12; with_reducible refine cO.mono ?_; rintro e w2 ⟨rfl, ho, hf⟩;
           have hs2 := HO.out w2 ho hf;
           have hb2 : Below B w w2 := (hb.alloc hBr _).trans (ho.below HK.out (Nat.le_trans hBr hbA.size));
           have hq2 := hs2.spot hlt;
           have HS3 := hid (hs2.set hlt (.int .i64 (-7)));
           clear hs2; rcases hq2 with ⟨v2, hc2, hfr⟩))
      go_roundw
      case rel => exact ⟨k + 1, by omega, by go_num, fun _ => HS3.out, hb2.setCell hBg _⟩
      case measure => simp [intOf]; omega
    · obtain rfl : k = n := by omega
      go_wp2
      go_end0
      exact ⟨rfl, hb⟩
end Go.Proofs.Ytgiippbjieecmaa
