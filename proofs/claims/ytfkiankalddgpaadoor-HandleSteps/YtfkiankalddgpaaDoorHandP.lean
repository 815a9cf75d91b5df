/- handle.longer, read and Parse by their contracts. -/
import Derived.Test.YtfkiankalddgpaaDoorHandT
import Derived.Test.YtfkiankalddgpaaDoorHandR
import Derived.Laws.RangeAny
import Derived.LoopTactic
namespace Go.Proofs.YtfkiankalddgpaaDoor
set_option maxRecDepth 100000
open Go.RowKit
set_option linter.unusedVariables false
set_option linter.unusedSimpArgs false
set_option maxRecDepth 100000

theorem longer_bad (n : Nat) (r : Int) (w : World) (h : r < 48 ∨ 57 < r) :
    Calls Tryd.prog 26 #[.int .i64 n, .int .i32 r] w fun e w' => e = .returned (.tuple #[.int .i64 0, .bool false]) ∧ w = w' := by
  go_enter Tryd.func26, Tryd.ntmps26
  go_wp2
  all_goals first | (exfalso; omega) | (go_ret2; exact ⟨rfl, rfl⟩)
theorem longer_dig (n c : Nat) (b : Bool) (w : World) (hn : n ≤ 65535) (h0 : 48 ≤ c) (h1 : c ≤ 57) (hb : b = decide (n * 10 + (c - 48) ≤ 65535)) :
    Calls Tryd.prog 26 #[.int .i64 n, .int .i32 c] w fun e w' => e = .returned (.tuple #[.int .i64 ((n * 10 + (c - 48) : Nat) : Int), .bool b]) ∧ w = w' := by
  have e1 : ((n * 10 + (c - 48) : Nat) : Int) = (n : Int) * 10 + ((c : Int) - 48) := by omega
  have e2 : b = decide ((n : Int) * 10 + ((c : Int) - 48) ≤ 65535) := by rw [hb, Bool.eq_iff_iff]; simp only [decide_eq_true_eq]; omega
  rw [e1, e2]
  clear e1 e2 hb b
  have hw : wrap64 ((c : Int) - 48) = (c : Int) - 48 := by unfold wrap64; omega
  go_enter Tryd.func26, Tryd.ntmps26
  go_wp2
  all_goals first | (exfalso; omega) | (go_ret2; exact ⟨rfl, rfl⟩)
/-- Within read: the result's cells, the two numbers, where it stands in the text. -/
structure ReadAt (w : World) (s : ByteArray) (wr : World) (pos a b : Nat) : Prop where
  res : wr.heap[w.heap.size]? = some (.cells #[.int .i64 0, .int .i64 0] 23 (0, 0))
  parts : wr.heap[w.heap.size + 1]? = some (.cells #[.int .i64 a, .int .i64 b] 43 (0, 0))
  it : wr.heap[w.heap.size + 2]? = some (.stringIter s pos)
  bel : Below w.heap.size w wr
theorem ReadAt.next {w wr : World} {s : ByteArray} {pos a b : Nat} (h : ReadAt w s wr pos a b) (pos' : Nat) : ReadAt w s (wr.iterAt (w.heap.size + 2) s pos') pos' a b :=
  ⟨(Lib.iterAt_other wr _ _ s _ (by omega)).trans h.res, (Lib.iterAt_other wr _ _ s _ (by omega)).trans h.parts, Lib.iterAt_heap wr _ s pos pos' h.it, Lib.below_iterAt h.bel (by omega) s pos'⟩
theorem ReadAt.set0 {w wr : World} {s : ByteArray} {pos a b : Nat} (h : ReadAt w s wr pos a b) (n : Nat) : ReadAt w s (wr.setCell ⟨w.heap.size + 1, 0, none⟩ (.int .i64 n)) pos n b :=
  ⟨(heap_setCell_other wr _ _ _ (by simp)).trans h.res, heap_setCell_same wr _ 0 _ _ _ h.parts, (heap_setCell_other wr _ _ _ (by simp)).trans h.it, h.bel.setCell (by simp) _⟩
theorem ReadAt.set1 {w wr : World} {s : ByteArray} {pos a b : Nat} (h : ReadAt w s wr pos a b) (n : Nat) : ReadAt w s (wr.setCell ⟨w.heap.size + 1, 1, none⟩ (.int .i64 n)) pos a n :=
  ⟨(heap_setCell_other wr _ _ _ (by simp)).trans h.res, heap_setCell_same wr _ 1 _ _ _ h.parts, (heap_setCell_other wr _ _ _ (by simp)).trans h.it, h.bel.setCell (by simp) _⟩
theorem four_cells {w : World} {b : Nat} {a c : Value} {T : TypeId} (e : w.heap[b]? = some (.cells #[a, c] T (0, 0))) :
    w.cell? ⟨b, 0, none⟩ = some a ∧ w.cell? ⟨b, 1, none⟩ = some c ∧ w.frozen? ⟨b, 0, none⟩ = false ∧ w.frozen? ⟨b, 1, none⟩ = false := by
  refine ⟨?_, ?_, ?_, ?_⟩
  · rw [Lib.cell_of_heap e]; rfl
  · rw [Lib.cell_of_heap e]; rfl
  · exact Lib.frozen_of_heap e 0
  · exact Lib.frozen_of_heap e 1
theorem readAt_start (w : World) (s : ByteArray) : ReadAt w s (((w.alloc (.cells #[.int .i64 0, .int .i64 0] 23)).alloc (.cells #[.int .i64 0, .int .i64 0] 43)).iter s 0) 0 0 0 := by
  have z1 : (w.alloc (.cells #[.int .i64 0, .int .i64 0] 23)).heap.size = w.heap.size + 1 := by simp
  have z2 : ((w.alloc (.cells #[.int .i64 0, .int .i64 0] 23)).alloc (.cells #[.int .i64 0, .int .i64 0] 43)).heap.size = w.heap.size + 2 := by simp
  refine ⟨?_, ?_, ?_, ?_⟩
  · refine (Lib.alloc_old _ _ _ (by omega)).trans ((Lib.alloc_old _ _ _ (by omega)).trans ?_)
    exact heap_alloc_new w _
  · refine (Lib.alloc_old _ _ _ (by omega)).trans ?_
    have e := heap_alloc_new (w.alloc (.cells #[.int .i64 0, .int .i64 0] 23)) (.cells #[.int .i64 0, .int .i64 0] 43)
    rwa [z1] at e
  · have e := World.iter_heap ((w.alloc (.cells #[.int .i64 0, .int .i64 0] 23)).alloc (.cells #[.int .i64 0, .int .i64 0] 43)) s 0
    rwa [z2] at e
  · exact (((Below.refl _ w).alloc (Nat.le_refl _) _).alloc (by omega) _).alloc (by omega) _
def atI (p : Bool) : Int := if p then 1 else 0
/-- What a range over the text gives at that place. -/
theorem read_rune (s : ByteArray) (pos : Nat) (hp : pos < s.size) : ∃ r k : Nat, Go.Utf8.decode s pos = (r, k) ∧ r ≤ 2147483647 ∧ 1 ≤ k ∧
    (r = 46 → k = 1 ∧ s.data.toList.drop pos = 46 :: s.data.toList.drop (pos + 1)) ∧
    (48 ≤ r ∧ r ≤ 57 → k = 1 ∧ ∃ c, Dig c ∧ c.toNat = r ∧ s.data.toList.drop pos = c :: s.data.toList.drop (pos + 1)) ∧
    (r ≠ 46 ∧ ¬ (48 ≤ r ∧ r ≤ 57) → ∃ c t, c ≠ 46 ∧ ¬ Dig c ∧ s.data.toList.drop pos = c :: t) := by
  have hz : s.data.toList.length = s.size := rfl
  have hd := drop_cons s.data.toList pos (by omega)
  have hg := get_bang s pos hp
  obtain ⟨c, hc⟩ : ∃ c, s.data.toList.getD pos 0 = c := ⟨_, rfl⟩
  rw [hc] at hd hg
  have hc2 := c.toNat_lt
  have h46 : c ≠ 46 ↔ c.toNat ≠ 46 := ⟨fun h e => h (UInt8.toNat_inj.1 e), fun h e => h (by rw [e]; rfl)⟩
  by_cases hl : c.toNat < 128
  · have e := dec_low s pos (by rw [hg]; exact hl)
    rw [hg] at e
    refine ⟨c.toNat, 1, e, by omega, Nat.le_refl _, fun h => ⟨rfl, ?_⟩, fun h => ⟨rfl, c, h, rfl, hd⟩, fun h => ⟨c, _, h46.2 h.1, h.2, hd⟩⟩
    rw [hd, show c = 46 from UInt8.toNat_inj.1 h]
  · have e := dec_high s pos (by rw [hg]; exact hl)
    have hk := dec_step s pos
    obtain ⟨r, k, hrk⟩ : ∃ r k, Go.Utf8.decode s pos = (r, k) := ⟨_, _, rfl⟩
    rw [hrk] at e hk
    simp only at e hk
    refine ⟨r, k, hrk, e.2, hk, fun h => by omega, fun h => by omega, fun h => ⟨c, _, h46.2 (by omega), fun k => ?_, hd⟩⟩
    unfold Dig at k
    omega

theorem read_any (s : ByteArray) (w : World) (hs : s.size ≤ 9223372036854775807) :
    Calls Tryd.prog 21 #[.string s] w fun e w' => e = .returned (.tuple #[.agg #[.int .i64 (rdI s.data.toList), .int .i64 (rdG s.data.toList)], .bool (rdB s.data.toList)]) ∧ Below w.heap.size w w' := by
  go_enter Tryd.func21, Tryd.ntmps21
  go_wp2
  go_loopw [5] (fun t wr => ∃ (pos a b : Nat) (p : Bool), t = .int .i64 (atI p) ∧ pos ≤ s.size ∧ a ≤ 65535 ∧ b ≤ 65535 ∧ ReadAt w s wr pos a b ∧ Hid (rd (s.data.toList.drop pos) p a b = rd s.data.toList false 0 0)) (fun _ wr => s.size - wr.iterPos (w.heap.size + 2))
  case atStart =>
    exact ⟨0, 0, 0, false, rfl, Nat.zero_le _, by omega, by omega, readAt_start w s, rfl⟩
  case round =>
    obtain ⟨pos, a, b, p, rfl, hpos, ha, hb, R, hq⟩ := hrel
    have hz : s.data.toList.length = s.size := rfl
    by_cases hp : pos < s.size
    · have hnx : ∀ ty, (Instr.next (.pointer (some ⟨w.heap.size + 2, 0, none⟩)) true ty).run Tryd.prog wr = _ := fun ty => Lib.run_next_any_at wr (w.heap.size + 2) s pos ty R.it hp
      obtain ⟨r, k, hd, hr0, hk1, h46, hdig, hoth⟩ := read_rune s pos hp
      rw [hd] at hnx
      simp only at hnx
      clear hd
      have R2 := R.next (pos + k)
      have bel := R2.bel
      obtain ⟨c0, c1, f0, f1⟩ := four_cells R2.res
      obtain ⟨d0, d1, g0, g1⟩ := four_cells R2.parts
      have hA0 : atI false = 0 := rfl
      have hA1 : atI true = 1 := rfl
      have hr' : (r : Int) ≤ 2147483647 := by omega
      have H46 : Hid (r = 46 → k = 1 ∧ s.data.toList.drop pos = 46 :: s.data.toList.drop (pos + 1)) := h46
      have HD : Hid (48 ≤ r ∧ r ≤ 57 → k = 1 ∧ ∃ c, Dig c ∧ c.toNat = r ∧ s.data.toList.drop pos = c :: s.data.toList.drop (pos + 1)) := hdig
      have HO : Hid (r ≠ 46 ∧ ¬ (48 ≤ r ∧ r ≤ 57) → ∃ c t, c ≠ 46 ∧ ¬ Dig c ∧ s.data.toList.drop pos = c :: t) := hoth
      clear h46 hdig hoth hz
      cases p with
      | false =>
        by_cases e46 : r = 46
        · subst e46
          obtain ⟨k1, hd⟩ := H46.out rfl
          subst k1
          have hs : Hid (rd (s.data.toList.drop (pos + 1)) true a b = rd s.data.toList false 0 0) := by show _ = _; rw [← hq.out, hd, rd_point]
          clear H46 HD HO hd hq
          go_wp2
          refine ⟨⟨pos + 1, a, b, true, by rfl, by omega, ha, hb, R2, hs⟩, ?_⟩
          simp only [World.iterPos, R2.it, R.it]
          omega
        · have hne : ((r : Int) == 46) = false := beq_eq_false_iff_ne.2 (by omega)
          by_cases hdg : 48 ≤ r ∧ r ≤ 57
          · obtain ⟨k1, c, hc, hcr, hd⟩ := HD.out hdg
            subst k1
            obtain ⟨v, hv⟩ : ∃ v, r - 48 = v - a * 10 ∧ a * 10 + (r - 48) = v := ⟨a * 10 + (r - 48), by omega, rfl⟩
            have hv1 : dg1 a c = v := by unfold dg1; rw [hcr]; exact hv.2
            by_cases hfit : v ≤ 65535
            · have cG : ∀ w, Calls Tryd.prog 26 #[.int .i64 a, .int .i32 r] w fun e w' => e = .returned (.tuple #[.int .i64 v, .bool true]) ∧ w = w' := fun w => by
                have h := longer_dig a r true w ha hdg.1 hdg.2 (by rw [hv.2]; exact (decide_eq_true hfit).symm)
                rwa [hv.2] at h
              have hs : Hid (rd (s.data.toList.drop (pos + 1)) false v b = rd s.data.toList false 0 0) := by show _ = _; rw [← hq.out, hd, rd_one _ _ _ hc (by rw [hv1]; exact hfit), hv1]
              clear H46 HD HO hd hq hv hv1 hcr e46 hdg
              go_wp2_with (first | (go_at_call 26; with_reducible refine (cG _).mono ?_; rintro e w' ⟨rfl, rfl⟩))
              refine ⟨⟨pos + 1, v, b, false, by rfl, by omega, by omega, by omega, R2.set0 v, hs⟩, ?_⟩
              simp only [World.iterPos, (R2.set0 v).it, R.it]
              omega
            · have cB : ∀ w, Calls Tryd.prog 26 #[.int .i64 a, .int .i32 r] w fun e w' => e = .returned (.tuple #[.int .i64 v, .bool false]) ∧ w = w' := fun w => by
                have h := longer_dig a r false w ha hdg.1 hdg.2 (by rw [hv.2]; exact (decide_eq_false hfit).symm)
                rwa [hv.2] at h
              have he : Hid (rdB s.data.toList = false ∧ rdI s.data.toList = 0 ∧ rdG s.data.toList = 0) := rd_none (by rw [← hq.out, hd, rd_bad1 _ _ _ (fun e => by rw [e] at hc; exact absurd hc (by decide)) (fun h => hfit (by rw [← hv1]; exact h.2))])
              clear H46 HD HO hd hq hv hv1 hcr e46 hdg
              go_wp2_with (first | (go_at_call 26; with_reducible refine (cB _).mono ?_; rintro e w' ⟨rfl, rfl⟩))
              refine bodyPost_ret (v := .tuple #[.agg #[.int .i64 0, .int .i64 0], .bool false]) (by simp [results, Tryd.results21, go_sem, c0, c1]) rfl ⟨by rw [he.1, he.2.1, he.2.2], ?_⟩
              exact (bel.setCell (Nat.le_refl _) _).setCell (Nat.le_refl _) _
          · obtain ⟨c, t, hc1, hc2, hd⟩ := HO.out ⟨e46, hdg⟩
            have cB := fun w => longer_bad a r w (by omega)
            have he : Hid (rdB s.data.toList = false ∧ rdI s.data.toList = 0 ∧ rdG s.data.toList = 0) := rd_none (by rw [← hq.out, hd, rd_bad1 _ _ _ hc1 (fun h => hc2 h.1)])
            clear H46 HD HO hd hq e46 hdg
            go_wp2_with (first | (go_at_call 26; with_reducible refine (cB _).mono ?_; rintro e w' ⟨rfl, rfl⟩))
            refine bodyPost_ret (v := .tuple #[.agg #[.int .i64 0, .int .i64 0], .bool false]) (by simp [results, Tryd.results21, go_sem, c0, c1]) rfl ⟨by rw [he.1, he.2.1, he.2.2], ?_⟩
            exact (bel.setCell (Nat.le_refl _) _).setCell (Nat.le_refl _) _
      | true =>
        by_cases hdg : 48 ≤ r ∧ r ≤ 57
        · obtain ⟨k1, c, hc, hcr, hd⟩ := HD.out hdg
          subst k1
          have hne : ((r : Int) == 46) = false := beq_eq_false_iff_ne.2 (by omega)
          obtain ⟨v, hv⟩ : ∃ v, r - 48 = v - b * 10 ∧ b * 10 + (r - 48) = v := ⟨b * 10 + (r - 48), by omega, rfl⟩
          have hv1 : dg1 b c = v := by unfold dg1; rw [hcr]; exact hv.2
          by_cases hfit : v ≤ 65535
          · have cG : ∀ w, Calls Tryd.prog 26 #[.int .i64 b, .int .i32 r] w fun e w' => e = .returned (.tuple #[.int .i64 v, .bool true]) ∧ w = w' := fun w => by
              have h := longer_dig b r true w hb hdg.1 hdg.2 (by rw [hv.2]; exact (decide_eq_true hfit).symm)
              rwa [hv.2] at h
            have hs : Hid (rd (s.data.toList.drop (pos + 1)) true a v = rd s.data.toList false 0 0) := by show _ = _; rw [← hq.out, hd, rd_two _ _ _ hc (by rw [hv1]; exact hfit), hv1]
            clear H46 HD HO hd hq hv hv1 hcr hdg
            go_wp2_with (first | (go_at_call 26; with_reducible refine (cG _).mono ?_; rintro e w' ⟨rfl, rfl⟩))
            refine ⟨⟨pos + 1, a, v, true, by rfl, by omega, by omega, by omega, R2.set1 v, hs⟩, ?_⟩
            simp only [World.iterPos, (R2.set1 v).it, R.it]
            omega
          · have cB : ∀ w, Calls Tryd.prog 26 #[.int .i64 b, .int .i32 r] w fun e w' => e = .returned (.tuple #[.int .i64 v, .bool false]) ∧ w = w' := fun w => by
              have h := longer_dig b r false w hb hdg.1 hdg.2 (by rw [hv.2]; exact (decide_eq_false hfit).symm)
              rwa [hv.2] at h
            have he : Hid (rdB s.data.toList = false ∧ rdI s.data.toList = 0 ∧ rdG s.data.toList = 0) := rd_none (by rw [← hq.out, hd, rd_bad2 _ _ _ (fun h => hfit (by rw [← hv1]; exact h.2))])
            clear H46 HD HO hd hq hv hv1 hcr hdg
            go_wp2_with (first | (go_at_call 26; with_reducible refine (cB _).mono ?_; rintro e w' ⟨rfl, rfl⟩))
            refine bodyPost_ret (v := .tuple #[.agg #[.int .i64 0, .int .i64 0], .bool false]) (by simp [results, Tryd.results21, go_sem, c0, c1]) rfl ⟨by rw [he.1, he.2.1, he.2.2], ?_⟩
            exact (bel.setCell (Nat.le_refl _) _).setCell (Nat.le_refl _) _
        · have cB := fun w => longer_bad b r w (by omega)
          have he : Hid (rdB s.data.toList = false ∧ rdI s.data.toList = 0 ∧ rdG s.data.toList = 0) := by
            by_cases e46 : r = 46
            · obtain ⟨k1, hd⟩ := H46.out e46
              exact rd_none (by rw [← hq.out, hd, rd_bad2 _ _ _ (fun h => absurd h.1 (by decide))])
            · obtain ⟨c, t, hc1, hc2, hd⟩ := HO.out ⟨e46, hdg⟩
              exact rd_none (by rw [← hq.out, hd, rd_bad2 _ _ _ (fun h => hc2 h.1)])
          clear H46 HD HO hq
          by_cases e46 : r = 46
          · subst e46
            clear cB
            have cB := fun w => longer_bad b 46 w (by omega)
            go_wp2_with (first | (go_at_call 26; with_reducible refine (cB _).mono ?_; rintro e w' ⟨rfl, rfl⟩))
            refine bodyPost_ret (v := .tuple #[.agg #[.int .i64 0, .int .i64 0], .bool false]) (by simp [results, Tryd.results21, go_sem, c0, c1]) rfl ⟨by rw [he.1, he.2.1, he.2.2], ?_⟩
            exact (bel.setCell (Nat.le_refl _) _).setCell (Nat.le_refl _) _
          · have hne : ((r : Int) == 46) = false := beq_eq_false_iff_ne.2 (by omega)
            clear e46
            go_wp2_with (first | (go_at_call 26; with_reducible refine (cB _).mono ?_; rintro e w' ⟨rfl, rfl⟩))
            refine bodyPost_ret (v := .tuple #[.agg #[.int .i64 0, .int .i64 0], .bool false]) (by simp [results, Tryd.results21, go_sem, c0, c1]) rfl ⟨by rw [he.1, he.2.1, he.2.2], ?_⟩
            exact (bel.setCell (Nat.le_refl _) _).setCell (Nat.le_refl _) _
    · have hnx : ∀ ty, (Instr.next (.pointer (some ⟨w.heap.size + 2, 0, none⟩)) true ty).run Tryd.prog wr = _ := fun ty => Lib.run_next_end_at wr (w.heap.size + 2) s pos ty R.it hp
      have hdr : s.data.toList.drop pos = [] := List.drop_eq_nil_of_le (by omega)
      have hq' := hq.out
      rw [hdr, rd_nil] at hq'
      have he : Hid (rdB s.data.toList = true ∧ rdI s.data.toList = a ∧ rdG s.data.toList = b) := rd_some hq'.symm
      clear hq' hdr hq hz
      have bel := R.bel
      obtain ⟨c0, c1, f0, f1⟩ := four_cells R.res
      obtain ⟨d0, d1, g0, g1⟩ := four_cells R.parts
      clear R
      go_wp2
      refine bodyPost_ret (v := .tuple #[.agg #[.int .i64 a, .int .i64 b], .bool true]) (by simp [results, Tryd.results21, go_sem, c0, c1]) rfl ⟨by rw [he.1, he.2.1, he.2.2], ?_⟩
      exact (bel.setCell (Nat.le_refl _) _).setCell (Nat.le_refl _) _
/-- handle.Parse. -/
theorem parse_core (s : ByteArray) (w : World) (T : Tab w) (A B : Int) (ok : Bool) (x : ByteArray) (I G E : Int)
    (cR : ∀ w, Calls Tryd.prog 21 #[.string s] w fun e w' => e = .returned (.tuple #[.agg #[.int .i64 A, .int .i64 B], .bool ok]) ∧ Below w.heap.size w w')
    (cT : ∀ w, Tab w → Calls Tryd.prog 17 #[.agg #[.int .i64 A, .int .i64 B]] w fun e w' => e = .returned (.string x) ∧ Below w.heap.size w w')
    (hres : Hid ((ok = true ∧ x = s → I = A ∧ G = B ∧ E = 0) ∧ (¬ (ok = true ∧ x = s) → I = 0 ∧ G = 0 ∧ E = 3))) :
    Calls Tryd.prog 15 #[.string s] w fun e w' => e = .returned (.tuple #[.agg #[.int .i64 I, .int .i64 G], .int .i64 E]) ∧ Below w.heap.size w w' := by
  have hb0 : Below w.heap.size w (w.alloc (.cells #[.int .i64 0, .int .i64 0] 23)) := (Below.refl _ w).alloc (Nat.le_refl _) _
  have g0 := heap_alloc_new w (.cells #[.int .i64 0, .int .i64 0] 23)
  have G0 : Hid (_ = _) := g0
  have T0 := T.more (.cells #[.int .i64 0, .int .i64 0] 23)
  clear g0 T
  have low : ∀ {w1 : World}, Below (w.alloc (.cells #[.int .i64 0, .int .i64 0] 23)).heap.size (w.alloc (.cells #[.int .i64 0, .int .i64 0] 23)) w1 → w.heap.size < w1.heap.size := fun h => by have := h.size; simp at this; omega
  cases ok with
  | false =>
    obtain ⟨rfl, rfl, rfl⟩ := hres.2 (by simp)
    clear hres
    go_enter Tryd.func15, Tryd.ntmps15
    go_wp2_with (first
      | (go_at_call 21; with_reducible refine (cR _).mono ?_; rintro e w1 ⟨rfl, hb1⟩; have hb2 := hb1.alloc (o := .cells #[.int .i64 A, .int .i64 B] 23) hb1.size; obtain ⟨c0, c1, f0, f1⟩ := two_cells hb2 G0.out (by simp)))
    refine bodyPost_ret (v := .tuple #[.agg #[.int .i64 0, .int .i64 0], .int .i64 3]) (by simp [results, Tryd.results15, go_sem, c0, c1]) rfl ⟨rfl, ?_⟩
    exact ((hb0.trans (hb2.mono hb0.size)).setCell (Nat.le_refl _) _).setCell (Nat.le_refl _) _
  | true =>
    by_cases hxs : x = s
    · subst hxs
      obtain ⟨rfl, rfl, rfl⟩ := hres.1 ⟨rfl, rfl⟩
      clear hres
      go_enter Tryd.func15, Tryd.ntmps15
      go_wp2_with (first
        | (go_at_call 21; with_reducible refine (cR _).mono ?_; rintro e w1 ⟨rfl, hb1⟩; have hb2 := hb1.alloc (o := .cells #[.int .i64 I, .int .i64 G] 23) hb1.size; have T2 := (T0.kept hb1).more (.cells #[.int .i64 I, .int .i64 G] 23))
        | (go_at_call 17; with_reducible refine (cT _ T2).mono ?_; rintro e w3 ⟨rfl, hb3⟩; have hb23 := next hb2 hb3; obtain ⟨c0, c1, f0, f1⟩ := two_cells hb23 G0.out (by simp); obtain ⟨d0, d1, _, _⟩ := two_cells hb3 (heap_alloc_new w1 _) (by simp)))
      refine bodyPost_ret (v := .tuple #[.agg #[.int .i64 I, .int .i64 G], .int .i64 0]) (by simp [results, Tryd.results15, go_sem, c0, c1]) rfl ⟨rfl, ?_⟩
      exact ((hb0.trans (hb23.mono hb0.size)).setCell (Nat.le_refl _) _).setCell (Nat.le_refl _) _
    · obtain ⟨rfl, rfl, rfl⟩ := hres.2 (fun h => hxs h.2)
      have hneq : (x.toList == s.toList) = false := beq_eq_false_iff_ne.2 (fun e => hxs (numOf (by rw [← Lib.toList_data, ← Lib.toList_data]; exact e)))
      clear hres hxs
      go_enter Tryd.func15, Tryd.ntmps15
      go_wp2_with (first
        | (go_at_call 21; with_reducible refine (cR _).mono ?_; rintro e w1 ⟨rfl, hb1⟩; have hb2 := hb1.alloc (o := .cells #[.int .i64 A, .int .i64 B] 23) hb1.size; have T2 := (T0.kept hb1).more (.cells #[.int .i64 A, .int .i64 B] 23))
        | (go_at_call 17; with_reducible refine (cT _ T2).mono ?_; rintro e w3 ⟨rfl, hb3⟩; have hb23 := next hb2 hb3; obtain ⟨c0, c1, f0, f1⟩ := two_cells hb23 G0.out (by simp); obtain ⟨d0, d1, _, _⟩ := two_cells hb3 (heap_alloc_new w1 _) (by simp)))
      refine bodyPost_ret (v := .tuple #[.agg #[.int .i64 0, .int .i64 0], .int .i64 3]) (by simp [results, Tryd.results15, go_sem, c0, c1]) rfl ⟨rfl, ?_⟩
      exact ((hb0.trans (hb23.mono hb0.size)).setCell (Nat.le_refl _) _).setCell (Nat.le_refl _) _
theorem hParse_any (s : ByteArray) (w : World) (hs : s.size ≤ 9223372036854775807) (T : Tab w) :
    Calls Tryd.prog 15 #[.string s] w fun e w' => e = .returned (.tuple #[.agg #[.int .i64 (parRI s.data.toList), .int .i64 (parRG s.data.toList)], .int .i64 (parE s.data.toList)]) ∧ Below w.heap.size w w' := by
  refine parse_core s w T _ _ _ _ _ _ _ (fun w => read_any s w hs) (fun w T => hText_any _ _ w T) ⟨fun h => ?_, fun h => ?_⟩
  · refine par_of_rd_t h.1 ?_
    have e := congrArg (fun x : ByteArray => x.data.toList) h.2
    simpa using e
  · refine par_of_rd_f (fun k => h ⟨k.1, numOf ?_⟩)
    rw [k.2]
end Go.Proofs.YtfkiankalddgpaaDoor
