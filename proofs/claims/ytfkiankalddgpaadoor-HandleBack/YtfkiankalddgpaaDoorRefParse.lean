/- joistref07.Parse by its contract. -/
import Derived.Test.YtfkiankalddgpaaDoorRefText
namespace Go.Proofs.YtfkiankalddgpaaDoor
set_option maxRecDepth 100000
open Go.RowKit
set_option linter.unusedVariables false
set_option linter.unusedSimpArgs false
set_option maxRecDepth 100000

theorem ext_fromP (s : ByteArray) (a : Nat) : (s.extract a s.size).data.toList = s.data.toList.drop a := by
  rw [ByteArray.data_extract, Array.toList_extract, List.extract_eq_take_drop, List.take_of_length_le]
  rw [List.length_drop]
  exact Nat.le_refl _
theorem ext_toP (s : ByteArray) (b : Nat) : (s.extract 0 b).data.toList = s.data.toList.take b := by
  rw [ByteArray.data_extract, Array.toList_extract, List.extract_eq_take_drop]
  rfl
/-- What stood in a block of two cells stands. -/
theorem two_cells {n b : Nat} {w0 w1 : World} {a c : Value} {T : TypeId} (hb : Below n w0 w1) (h : w0.heap[b]? = some (.cells #[a, c] T (0, 0))) (hn : b < n) :
    w1.cell? ⟨b, 0, none⟩ = some a ∧ w1.cell? ⟨b, 1, none⟩ = some c ∧ w1.frozen? ⟨b, 0, none⟩ = false ∧ w1.frozen? ⟨b, 1, none⟩ = false := by
  have e : w1.heap[b]? = some (.cells #[a, c] T (0, 0)) := (hb.block _ hn).trans h
  refine ⟨?_, ?_, ?_, ?_⟩
  · rw [Lib.cell_of_heap e]; rfl
  · rw [Lib.cell_of_heap e]; rfl
  · exact Lib.frozen_of_heap e 0
  · exact Lib.frozen_of_heap e 1
theorem refParse_point (s : ByteArray) (w : World) (hs : s.size ≤ 9223372036854775807) (k : Nat) (hk : k < s.size) (A B : Int)
    (hq : Hid (∀ j, j < k → s.data.toList.getD j 0 ≠ 46)) (e46 : (s[k]'hk).toNat = 46)
    (hd1 : ∀ w, Calls Tryd.prog 22 #[.string (s.extract 0 k), .int .i64 2] w fun e w' => e = .returned (.int .i64 A) ∧ w = w')
    (hd2 : ∀ w, Calls Tryd.prog 22 #[.string (s.extract (k + 1) s.size), .int .i64 5] w fun e w' => e = .returned (.int .i64 B) ∧ w = w')
    (b : Bool) (hr : ∀ w, Calls Tryd.prog 14 #[.agg #[.int .i64 A, .int .i64 B]] w fun e w' => e = .returned (.bool b) ∧ Below w.heap.size w w')
    (x : ByteArray) (ht : ∀ w, Calls Tryd.prog 18 #[.agg #[.int .i64 A, .int .i64 B]] w fun e w' => e = .returned (.string x) ∧ Below w.heap.size w w')
    (I G E : Int) (hres : Hid ((b = true ∧ x = s → I = A ∧ G = B ∧ E = 0) ∧ (¬ (b = true ∧ x = s) → I = 0 ∧ G = 0 ∧ E = 3))) :
    Calls Tryd.prog 16 #[.string s] w fun e w' => e = .returned (.tuple #[.agg #[.int .i64 I, .int .i64 G], .int .i64 E]) ∧ Below w.heap.size w w' := by
  have hp : Hid (∀ j, j < k → ∀ (hj : j < s.size), ¬ (s[j]'hj).toNat = 46) := fun j hj hjs e => by
    rw [get_num s j hjs] at e
    exact hq j hj (UInt8.toNat_inj.1 e)
  have hbA : Below w.heap.size w ((w.alloc (.cells #[.int .i64 0, .int .i64 0] 23)).alloc (.cells #[.int .i64 A, .int .i64 B] 23)) := ((Below.refl _ w).alloc (Nat.le_refl _) _).alloc (by simp) _
  have g0 : ((w.alloc (.cells #[.int .i64 0, .int .i64 0] 23)).alloc (.cells #[.int .i64 A, .int .i64 B] 23)).heap[w.heap.size]? = some (.cells #[.int .i64 0, .int .i64 0] 23 (0, 0)) := by
    show ((w.heap.push _).push _)[w.heap.size]? = _
    rw [Array.getElem?_push_lt (by simp)]
    simp
  have g1 : ((w.alloc (.cells #[.int .i64 0, .int .i64 0] 23)).alloc (.cells #[.int .i64 A, .int .i64 B] 23)).heap[w.heap.size + 1]? = some (.cells #[.int .i64 A, .int .i64 B] 23 (0, 0)) := by
    have e := heap_alloc_new (w.alloc (.cells #[.int .i64 0, .int .i64 0] 23)) (.cells #[.int .i64 A, .int .i64 B] 23)
    rwa [show (w.alloc (.cells #[.int .i64 0, .int .i64 0] 23)).heap.size = w.heap.size + 1 by simp] at e
  have gs : ((w.alloc (.cells #[.int .i64 0, .int .i64 0] 23)).alloc (.cells #[.int .i64 A, .int .i64 B] 23)).heap.size = w.heap.size + 2 := by simp
  have G0 : Hid (_ = _) := g0
  have G1 : Hid (_ = _) := g1
  have GS : Hid (_ = _) := gs
  clear g0 g1 gs
  go_enter Tryd.func16, Tryd.ntmps16
  go_wp2
  go_loop [4] (fun t => ∃ i : Nat, i ≤ k ∧ t = .int .i64 i) (fun t => k - (intOf t).toNat)
  case atStart => exact ⟨0, Nat.zero_le _, rfl⟩
  case round =>
    obtain ⟨i, hi, rfl⟩ := hrel
    by_cases hlt : i < k
    · have hlt' : (i : Int) < s.size := by omega
      have his : i < s.size := by omega
      have hne := hp.out i hlt his
      obtain ⟨z, hz⟩ : ∃ z, (s[i]'his).toNat = z := ⟨_, rfl⟩
      rw [hz] at hne
      have hz46 : ((z : Int) != 46) = true := by simp; omega
      go_wp2
      refine ⟨⟨i + 1, by omega, by simp⟩, ?_⟩
      simp only [intOf]
      omega
    · obtain rfl : i = k := by omega
      have hlt' : (i : Int) < s.size := by omega
      clear hp hq
      cases b with
      | false =>
        obtain ⟨rfl, rfl, rfl⟩ := hres.2 (by simp)
        clear hres
        go_wp2_with (first
          | (go_at_call 22; with_reducible refine (hd1 _).mono ?_; rintro e w1 ⟨rfl, rfl⟩)
          | (go_at_call 22; with_reducible refine (hd2 _).mono ?_; rintro e w1 ⟨rfl, rfl⟩)
          | (go_at_call 14; with_reducible refine (hr _).mono ?_; rintro e w2 ⟨rfl, hb2⟩; obtain ⟨c0, c1, f0, f1⟩ := two_cells hb2 G0.out (by rw [GS.out]; omega); obtain ⟨d0, d1, _, _⟩ := two_cells hb2 G1.out (by rw [GS.out]; omega)))
        refine bodyPost_ret (v := .tuple #[.agg #[.int .i64 0, .int .i64 0], .int .i64 3]) (by simp [results, Tryd.results16, go_sem, c0, c1]) rfl ⟨rfl, ?_⟩
        exact ((hbA.trans (hb2.mono hbA.size)).setCell (Nat.le_refl _) _).setCell (Nat.le_refl _) _
      | true =>
        by_cases hxs : x = s
        · subst hxs
          obtain ⟨rfl, rfl, rfl⟩ := hres.1 ⟨rfl, rfl⟩
          clear hres
          go_wp2_with (first
          | (go_at_call 22; with_reducible refine (hd1 _).mono ?_; rintro e w1 ⟨rfl, rfl⟩)
          | (go_at_call 22; with_reducible refine (hd2 _).mono ?_; rintro e w1 ⟨rfl, rfl⟩)
          | (go_at_call 14; with_reducible refine (hr _).mono ?_; rintro e w2 ⟨rfl, hb2⟩; obtain ⟨d0, d1, _, _⟩ := two_cells hb2 G1.out (by rw [GS.out]; omega))
          | (go_at_call 18; with_reducible refine (ht _).mono ?_; rintro e w3 ⟨rfl, hb3⟩; have hb23 := next hb2 hb3; obtain ⟨c0, c1, f0, f1⟩ := two_cells hb23 G0.out (by rw [GS.out]; omega); obtain ⟨d2, d3, _, _⟩ := two_cells hb23 G1.out (by rw [GS.out]; omega)))
          refine bodyPost_ret (v := .tuple #[.agg #[.int .i64 I, .int .i64 G], .int .i64 0]) (by simp [results, Tryd.results16, go_sem, c0, c1]) rfl ⟨rfl, ?_⟩
          exact ((hbA.trans (hb23.mono hbA.size)).setCell (Nat.le_refl _) _).setCell (Nat.le_refl _) _
        · obtain ⟨rfl, rfl, rfl⟩ := hres.2 (fun h => hxs h.2)
          have hneq : (x.toList == s.toList) = false := beq_eq_false_iff_ne.2 (fun e => hxs (numOf (by rw [← Lib.toList_data, ← Lib.toList_data]; exact e)))
          clear hres hxs
          go_wp2_with (first
          | (go_at_call 22; with_reducible refine (hd1 _).mono ?_; rintro e w1 ⟨rfl, rfl⟩)
          | (go_at_call 22; with_reducible refine (hd2 _).mono ?_; rintro e w1 ⟨rfl, rfl⟩)
          | (go_at_call 14; with_reducible refine (hr _).mono ?_; rintro e w2 ⟨rfl, hb2⟩; obtain ⟨d0, d1, _, _⟩ := two_cells hb2 G1.out (by rw [GS.out]; omega))
          | (go_at_call 18; with_reducible refine (ht _).mono ?_; rintro e w3 ⟨rfl, hb3⟩; have hb23 := next hb2 hb3; obtain ⟨c0, c1, f0, f1⟩ := two_cells hb23 G0.out (by rw [GS.out]; omega); obtain ⟨d2, d3, _, _⟩ := two_cells hb23 G1.out (by rw [GS.out]; omega)))
          refine bodyPost_ret (v := .tuple #[.agg #[.int .i64 0, .int .i64 0], .int .i64 3]) (by simp [results, Tryd.results16, go_sem, c0, c1]) rfl ⟨rfl, ?_⟩
          exact ((hbA.trans (hb23.mono hbA.size)).setCell (Nat.le_refl _) _).setCell (Nat.le_refl _) _
theorem refParse_none (s : ByteArray) (w : World) (hs : s.size ≤ 9223372036854775807) (A : Int)
    (hq : Hid (∀ j, j < s.size → s.data.toList.getD j 0 ≠ 46))
    (hd1 : ∀ w, Calls Tryd.prog 22 #[.string s, .int .i64 2] w fun e w' => e = .returned (.int .i64 A) ∧ w = w')
    (hr : ∀ w, Calls Tryd.prog 14 #[.agg #[.int .i64 A, .int .i64 (-1)]] w fun e w' => e = .returned (.bool false) ∧ Below w.heap.size w w') :
    Calls Tryd.prog 16 #[.string s] w fun e w' => e = .returned (.tuple #[.agg #[.int .i64 0, .int .i64 0], .int .i64 3]) ∧ Below w.heap.size w w' := by
  have hp : Hid (∀ j, ∀ (hj : j < s.size), ¬ (s[j]'hj).toNat = 46) := fun j hjs e => by
    rw [get_num s j hjs] at e
    exact hq j hjs (UInt8.toNat_inj.1 e)
  have hbA : Below w.heap.size w ((w.alloc (.cells #[.int .i64 0, .int .i64 0] 23)).alloc (.cells #[.int .i64 A, .int .i64 (-1)] 23)) := ((Below.refl _ w).alloc (Nat.le_refl _) _).alloc (by simp) _
  have g0 : ((w.alloc (.cells #[.int .i64 0, .int .i64 0] 23)).alloc (.cells #[.int .i64 A, .int .i64 (-1)] 23)).heap[w.heap.size]? = some (.cells #[.int .i64 0, .int .i64 0] 23 (0, 0)) := by
    show ((w.heap.push _).push _)[w.heap.size]? = _
    rw [Array.getElem?_push_lt (by simp)]
    simp
  have gs : ((w.alloc (.cells #[.int .i64 0, .int .i64 0] 23)).alloc (.cells #[.int .i64 A, .int .i64 (-1)] 23)).heap.size = w.heap.size + 2 := by simp
  have G0 : Hid (_ = _) := g0
  have GS : Hid (_ = _) := gs
  clear g0 gs
  go_enter Tryd.func16, Tryd.ntmps16
  go_wp2
  go_loop [4] (fun t => ∃ i : Nat, i ≤ s.size ∧ t = .int .i64 i) (fun t => s.size - (intOf t).toNat)
  case atStart => exact ⟨0, Nat.zero_le _, rfl⟩
  case round =>
    obtain ⟨i, hi, rfl⟩ := hrel
    by_cases hlt : i < s.size
    · have hlt' : (i : Int) < s.size := by omega
      have hne := hp.out i hlt
      obtain ⟨z, hz⟩ : ∃ z, (s[i]'hlt).toNat = z := ⟨_, rfl⟩
      rw [hz] at hne
      have hz46 : ((z : Int) != 46) = true := by simp; omega
      go_wp2
      refine ⟨⟨i + 1, by omega, by simp⟩, ?_⟩
      simp only [intOf]
      omega
    · obtain rfl : i = s.size := by omega
      clear hp hq
      go_wp2_with (first
        | (go_at_call 22; with_reducible refine (hd1 _).mono ?_; rintro e w1 ⟨rfl, rfl⟩)
        | (go_at_call 14; with_reducible refine (hr _).mono ?_; rintro e w2 ⟨rfl, hb2⟩; obtain ⟨c0, c1, f0, f1⟩ := two_cells hb2 G0.out (by rw [GS.out]; omega)))
      refine bodyPost_ret (v := .tuple #[.agg #[.int .i64 0, .int .i64 0], .int .i64 3]) (by simp [results, Tryd.results16, go_sem, c0, c1]) rfl ⟨rfl, ?_⟩
      exact ((hbA.trans (hb2.mono hbA.size)).setCell (Nat.le_refl _) _).setCell (Nat.le_refl _) _
/-- What Parse answers. -/
def parOK (l : List UInt8) : Prop := RightH (parI l) (parG l) ∧ textH (parI l) (parG l) = l
instance (l : List UInt8) : Decidable (parOK l) := by unfold parOK; exact inferInstance
def parRI (l : List UInt8) : Int := if parOK l then parI l else 0
def parRG (l : List UInt8) : Int := if parOK l then parG l else 0
def parE (l : List UInt8) : Int := if parOK l then 0 else 3
theorem par_t {l : List UInt8} (h : parOK l) : parRI l = parI l ∧ parRG l = parG l ∧ parE l = 0 := ⟨if_pos h, if_pos h, if_pos h⟩
theorem par_f {l : List UInt8} (h : ¬ parOK l) : parRI l = 0 ∧ parRG l = 0 ∧ parE l = 3 := ⟨if_neg h, if_neg h, if_neg h⟩
/-- joistref07.Parse. -/
theorem refParse_any (s : ByteArray) (w : World) (hs : s.size ≤ 9223372036854775807) :
    Calls Tryd.prog 16 #[.string s] w fun e w' => e = .returned (.tuple #[.agg #[.int .i64 (parRI s.data.toList), .int .i64 (parRG s.data.toList)], .int .i64 (parE s.data.toList)]) ∧ Below w.heap.size w w' := by
  have hz : s.data.toList.length = s.size := rfl
  have hk := pointL_le s.data.toList
  have hpre : ∀ j, j < pointL s.data.toList → s.data.toList.getD j 0 ≠ 46 := fun j hj => pointL_before hj
  by_cases hlt : pointL s.data.toList < s.size
  · have h46 : s.data.toList.getD (pointL s.data.toList) 0 = 46 := pointL_at hlt
    have e46 : (s[pointL s.data.toList]'hlt).toNat = 46 := by rw [get_num, h46]; rfl
    refine refParse_point s w hs (pointL s.data.toList) hlt (parI s.data.toList) (parG s.data.toList) hpre e46 (fun w => ?_) (fun w => ?_) (rightHB (parI s.data.toList) (parG s.data.toList)) (refHRight_any _ _) ⟨(textR (parI s.data.toList) (parG s.data.toList)).toArray⟩ (refText_any _ _) _ _ _ ⟨fun h => ?_, fun h => ?_⟩
    · have h := digits_any (s.extract 0 (pointL s.data.toList)) 2 w (by omega) (by rw [ByteArray.size_extract]; omega)
      rwa [ext_toP] at h
    · have h := digits_any (s.extract (pointL s.data.toList + 1) s.size) 5 w (by omega) (by rw [ByteArray.size_extract]; omega)
      rw [ext_fromP] at h
      have e : parG s.data.toList = digN (s.data.toList.drop (pointL s.data.toList + 1)) 5 := if_pos hlt
      rw [e]
      exact h
    · have hr : RightH (parI s.data.toList) (parG s.data.toList) := (rightHB_iff _ _).1 h.1
      refine par_t ⟨hr, ?_⟩
      have e := congrArg (fun x : ByteArray => x.data.toList) h.2
      rw [textR_t hr] at e
      simpa using e
    · refine par_f (fun k => h ⟨rightHB_t k.1, numOf ?_⟩)
      rw [textR_t k.1, k.2]
  · have e : pointL s.data.toList = s.size := by omega
    have eG : parG s.data.toList = -1 := if_neg (by omega)
    have hn : ¬ RightH (parI s.data.toList) (parG s.data.toList) := fun h => by rw [eG] at h; unfold RightH at h; omega
    obtain ⟨p1, p2, p3⟩ := par_f (l := s.data.toList) (fun h => hn h.1)
    rw [p1, p2, p3]
    refine refParse_none s w hs (parI s.data.toList) (by rw [e] at hpre; exact hpre) (fun w => ?_) (fun w => ?_)
    · have h := digits_any s 2 w (by omega) hs
      have e2 : parI s.data.toList = digN s.data.toList 2 := by unfold parI; rw [e, List.take_of_length_le (by omega)]
      rw [e2]
      exact h
    · have h := refHRight_any (parI s.data.toList) (parG s.data.toList) w
      rwa [rightHB_f hn, eG] at h
end Go.Proofs.YtfkiankalddgpaaDoor
