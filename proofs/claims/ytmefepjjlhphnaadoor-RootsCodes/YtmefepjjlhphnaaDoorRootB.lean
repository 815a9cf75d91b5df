/- strings.Clone; slices.Clone of roots; roots.with by their contracts. -/
import Derived.Test.YtmefepjjlhphnaaDoorRootA
import Derived.Test.YtmefepjjlhphnaaDoorNBytes
import Derived.Lib.UnsafeStr
import Derived.Lib.BufferWrite
import Derived.Deep.RegionHeld3
namespace Go.Proofs.YtmefepjjlhphnaaDoor
set_option maxRecDepth 100000
open Go.RowKit
set_option linter.unusedVariables false
set_option linter.unusedSimpArgs false
set_option maxRecDepth 100000

theorem uns_at {w : World} {g : Nat} {s : ByteArray} (h0 : s.size ≠ 0) (hlim : s.size ≤ 140737488355328) (hg : Hid (w.heap[g]? = some (.cells (Lib.byteCells s.data.toList ++ (List.replicate s.size (Value.int .u8 0)).drop s.size).toArray 5 (0, 0)))) :
    (Builtin.unsafeString_ #[91, 3] 9 #[.pointer (some ⟨g, 0, none⟩), .int .i64 (s.size : Nat)]).run Tryd.prog w = .ok (.string s) (w.freeze ⟨g, 0, none⟩ s.size) := by
  obtain ⟨i0, hi, hz0, hz1, hz2⟩ := info_parts Tryd.info5
  have hco : Tryd.prog.cellsOf 5 = 1 := by simp [Program.cellsOf, hi, hz1]
  have hne : s.data.toList ≠ [] := fun e => h0 (by rw [Lib.size_eq, e]; rfl)
  obtain ⟨Y, hY⟩ : ∃ Y, Y = (Lib.byteCells s.data.toList ++ (List.replicate s.size (Value.int .u8 0)).drop s.size).toArray := ⟨_, rfl⟩
  have hYl : Y.toList = Lib.byteCells s.data.toList := by
    rw [hY, List.toList_toArray, List.drop_of_length_le (by simp), List.append_nil]
  have hYs : Y.size = s.size := by rw [← Array.length_toList, hYl, Lib.byteCells_length, ← Lib.size_eq]
  have hg' : w.heap[g]? = some (.cells Y 5 (0, 0)) := by rw [hY]; exact hg.out
  have h := Lib.run_unsafeString_row (P := Tryd.prog) w 91 3 9 5 Tryd.underlying91 hco g Y.size (by unfold World.shape?; rw [hg']) s.data.toList hne (by rw [← Lib.size_eq]; omega) (by rw [← Lib.size_eq]; omega)
    (fun j x hx => by
      rw [Addr.add_lit, Nat.zero_add, cell_of_row w g j Y 5 (0, 0) hg', ← Array.getElem?_toList, hYl]
      simp [Lib.byteCells, hx])
  rw [← Lib.size_eq] at h
  exact h
theorem sliteClone_any (s : ByteArray) (w : World) (hlim : s.size ≤ 140737488355328) :
    Calls Tryd.prog 57 #[.string s] w fun e w' => e = .returned (.string s) ∧ Below w.heap.size w w' := by
  by_cases h0 : s.size = 0
  · have hs : s = ⟨#[]⟩ := by
      apply ByteArray.ext
      exact Array.eq_empty_of_size_eq_zero h0
    subst hs
    go_enter Tryd.func57, Tryd.ntmps57
    go_wp2
    go_ret
    exact ⟨rfl, Below.refl _ _⟩
  · obtain ⟨i0, hi, hz0, hz1, hz2⟩ := info_parts Tryd.info5
    have hI : ((s.size : Int) == 0) = false := beq_eq_false_iff_ne.2 (by omega)
    have hI2 : (0 : Int) < (s.size : Int) := by omega
    have HU : Hid (∀ w2 : World, Hid (w2.heap[w.heap.size]? = some (.cells (Lib.byteCells s.data.toList ++ (List.replicate s.size (Value.int .u8 0)).drop s.size).toArray 5 (0, 0))) → (Builtin.unsafeString_ #[91, 3] 9 #[.pointer (some ⟨w.heap.size, 0, none⟩), .int .i64 (s.size : Nat)]).run Tryd.prog w2 = .ok (.string s) (w2.freeze ⟨w.heap.size, 0, none⟩ s.size)) := hid (fun w2 hg => uns_at h0 hlim hg)
    clear h0
    go_enter Tryd.func57, Tryd.ntmps57
    go_wp2_with (first
      | (at_make; refine wpList_make_some _ rfl _ _ 23 rfl 5 i0 (.int .u8 0) Tryd.underlying23 hi hz0 hz1 rfl .i64 .i64 _ _ s.size s.size rfl rfl rfl rfl (Nat.le_refl _) (by rw [hz2]; omega) (by unfold maxLen; omega) ?_; intro w1 HG1 hb1)
      | (with_reducible refine wpList_copy_str rfl (.tmp 10) (.tmp 11) 23 9 rfl 5 Tryd.underlying23 (by rw [hi]; simp [hz1]) _ s.size s.size rfl s rfl (List.replicate s.size (.int .u8 0)) 5 HG1.out (Nat.le_refl _) (by simp) w.heap.size w hb1 (Nat.le_refl _) ?_; intro w2 HG2 hb2; have hUS := HU.out w2 HG2))
    go_ret
    exact ⟨rfl, Lib.below_freeze hb2 (p := ⟨w.heap.size, 0, none⟩) (Nat.le_refl _) _⟩
theorem sclone_any (s : ByteArray) (w : World) (hlim : s.size ≤ 140737488355328) :
    Calls Tryd.prog 49 #[.string s] w fun e w' => e = .returned (.string s) ∧ Below w.heap.size w w' := by
  have cC := sliteClone_any s w hlim
  go_enter Tryd.func49, Tryd.ntmps49
  go_wp2_with (first | (go_at_call 57; with_reducible refine cC.mono ?_; rintro e w1 ⟨rfl, hb1⟩))
  go_ret
  exact ⟨rfl, hb1⟩
/-- '[]api.Root{}' in new memory. -/
theorem own_emptyR (B : Nat) (w : World) (hB : B ≤ w.heap.size) : (w.alloc (.cells #[] 45)).ownsRow B 45 3 (.slice (some ⟨w.heap.size, 0, none⟩) 0 0) 0 (cellsR []) :=
  World.ownsRow_made w #[] 0 hB (by unfold maxLen; omega) rfl
/-- slices.Clone of roots that are there. -/
theorem cloneR_any (b off n cap : Nat) (l : List Rt) (w : World) (h : Rs w (some ⟨b, off, none⟩) n cap l) (hn : n * 32 ≤ 140737488355328) :
    Calls Tryd.prog 48 #[.slice (some ⟨b, off, none⟩) n cap] w fun e w' => ∃ bo c, e = .returned (.slice bo n c) ∧ OwR w.heap.size w' bo n c l ∧ Below w.heap.size w w' := by
  have q22 : ∀ (w : World) (a : Option Addr) (n c n' c' : Nat), (binOp .eql 22 (.slice a n c) (.slice none n' c')).run Tryd.prog w = .ok (.bool a.isNone) w := fun w a n c n' c' => Lib.run_eql_slice_nil w _ _ a n c n' c' Tryd.underlying22
  have hbA : Below w.heap.size w (w.alloc (.cells #[] 45)) := (Below.refl _ _).alloc (Nat.le_refl _) _
  have HT := hid (h.below hbA)
  have hb32 : (0 + n) * 32 ≤ 140737488355328 := by omega
  clear h
  go_enter Tryd.func48, Tryd.ntmps48
  go_wp2_with (first
    | (at_builtin; refine append_rs rfl (.tmp 5) (.tmp 6) rfl w.heap.size _ 0 [] rfl (own_emptyR w.heap.size w (Nat.le_refl _)) (by intro x hx; cases hx) (some ⟨b, off, none⟩) n cap l rfl HT.out hb32 (by simp) ?_))
  intro bo c' w2 ho2 hg2
  have b2 : Below w.heap.size w w2 := hbA.grown hg2 (by simp) (by intro j hj; cases hj; exact Nat.le_refl _)
  clear hg2
  go_wp2
  go_ret
  exact ⟨bo, c', by simp, ho2, b2⟩
theorem cellsR_same (l : List Rt) {i : Nat} (h : i < l.length) : (cellsR l).set (i * 3) (.string (ra l i).nm) = cellsR l := by
  have g := cellsR_get l (i := i) (j := 0) h (by omega)
  rw [Nat.add_zero] at g
  apply List.ext_getElem?
  intro j
  by_cases e : i * 3 = j
  · subst e
    rw [List.getElem?_set_self (by rw [cellsR_length]; omega), g]
    rfl
  · rw [List.getElem?_set_ne e]
/-- A name laid over itself. -/
theorem OwR.again {B : Nat} {w : World} {g n cap : Nat} {l : List Rt} (h : OwR B w (some ⟨g, 0, none⟩) n cap l) {i : Nat} (hi : i < n) : OwR B (w.setCell ⟨g, i * 3, none⟩ (.string (ra l i).nm)) (some ⟨g, 0, none⟩) n cap l := by
  refine ⟨h.len, ?_, h.rg⟩
  have := (h.row.stored (i * 3) (.string (ra l i).nm)).1
  rwa [cellsR_same l (by rw [h.len]; exact hi)] at this
set_option maxHeartbeats 1000000 in
theorem withR_rs (b off n cap k : Nat) (l : List Rt) (r : Rt) (w : World) (h : Rs w (some ⟨b, off, none⟩) n cap l) (hk : k < n) (hn : n ≤ 1000) (hs : RgR r) (h16 : ∀ i, i < n → (ra (l.set k r) i).nm.size ≤ 16) :
    Calls Tryd.prog 33 #[.slice (some ⟨b, off, none⟩) n cap, .int .i64 k, .agg #[.string r.nm, .int .i64 r.ix, .int .i64 r.gn]] w fun e w' => ∃ bo c, e = .returned (.slice bo n c) ∧ OwR w.heap.size w' bo n c (l.set k r) ∧ Below w.heap.size w w' := by
  have hbA : Below w.heap.size w (w.alloc r.obj) := (Below.refl _ w).alloc (Nat.le_refl _) _
  have h3 := r3_new w r
  have cC := cloneR_any b off n cap l _ (h.below hbA) (by omega)
  have hki : (k : Int) < (n : Int) := by omega
  obtain ⟨m, hm⟩ : ∃ m, l.set k r = m := ⟨_, rfl⟩
  have Hset : Hid (∀ (g c : Nat) (w4 : World), OwR (w.alloc r.obj).heap.size w4 (some ⟨g, 0, none⟩) n c l → OwR w.heap.size (((w4.setCell ⟨g, k * 3, none⟩ (.string r.nm)).setCell ⟨g, k * 3 + 1, none⟩ (.int .i64 r.ix)).setCell ⟨g, k * 3 + 2, none⟩ (.int .i64 r.gn)) (some ⟨g, 0, none⟩) n c m) := fun g c w4 ho => by
    have := (ho.mono (B' := w.heap.size) (by simp)).set hk hs
    rwa [hm] at this
  rw [hm] at h16 ⊢
  obtain ⟨nm, ix, gn⟩ := r
  simp only [Rt.obj] at *
  clear h hm
  have H16 := hid h16
  clear h16
  go_enter Tryd.func33, Tryd.ntmps33
  go_wp2_with (first
    | (go_at_call 48; with_reducible refine cC.mono ?_; rintro e w1 ⟨bo, c, rfl, ho1, hb1⟩; obtain ⟨g, rfl, hg1, hg2⟩ := ho1.shape (by omega); have q := ho1.rs.at (Below.refl _ _) hk; rw [Nat.zero_add] at q; obtain ⟨q0, q1, q2⟩ := q; have f0 := ho1.free (k * 3); have f1 := ho1.free (k * 3 + 1); have f2 := ho1.free (k * 3 + 2); obtain ⟨c0, c1, c2⟩ := h3.below hb1; have Ho := hid ho1; clear ho1))
  have ho2 := Hset.out g c w1 Ho.out
  have hgw : w.heap.size ≤ g := by simp at hg1; omega
  have b2 : Below w.heap.size w (((w1.setCell ⟨g, k * 3, none⟩ (.string nm)).setCell ⟨g, k * 3 + 1, none⟩ (.int .i64 ix)).setCell ⟨g, k * 3 + 2, none⟩ (.int .i64 gn)) := (((next hbA hb1).setCell hgw _).setCell hgw _).setCell hgw _
  clear Hset Ho q0 q1 q2 f0 f1 f2 c0 c1 c2 h3 cC hbA hb1
  go_loopw [17] (fun t wr => ∃ i : Nat, i ≤ n ∧ t = .int .i64 i ∧ OwR w.heap.size wr (some ⟨g, 0, none⟩) n c m ∧ Below w.heap.size w wr) (fun t _ => n - (intOf t).toNat)
  case atStart => exact ⟨0, Nat.zero_le _, rfl, ho2, b2⟩
  case round =>
    obtain ⟨i, hi, rfl, ho, hb⟩ := hrel
    clear ho2 b2
    by_cases hlt : i < n
    · have q := ho.rs.at (Below.refl _ _) hlt
      rw [Nat.zero_add] at q
      obtain ⟨q0, _, _⟩ := q
      have hii : (i : Int) < (n : Int) := by omega
      have cS := sclone_any (ra m i).nm wr (Nat.le_trans (H16.out i hlt) (by omega))
      have Hat : Hid (∀ w3, Below wr.heap.size wr w3 → w3.cell? ⟨g, i * 3, none⟩ = some (.string (ra m i).nm) ∧ w3.frozen? ⟨g, i * 3, none⟩ = false ∧ OwR w.heap.size (w3.setCell ⟨g, i * 3, none⟩ (.string (ra m i).nm)) (some ⟨g, 0, none⟩) n c m) := fun w3 hb3 => by
        have o3 := ho.below hb3
        have q := o3.rs.at (Below.refl _ _) hlt
        rw [Nat.zero_add] at q
        exact ⟨q.c0, o3.free _, o3.again hlt⟩
      generalize (ra m i).nm = y at *
      clear ho
      go_wp2_with (first
        | (go_at_call 49; with_reducible refine cS.mono ?_; rintro e w3 ⟨rfl, hb3⟩; obtain ⟨d0, d1, d2⟩ := Hat.out w3 hb3; have Hd := hid d2; clear d2))
      go_roundw
      case rel => exact ⟨i + 1, by omega, by go_num, Hd.out, (next hb hb3).setCell hgw _⟩
      case measure => simp [intOf]; omega
    · obtain rfl : i = n := by omega
      go_wp2
      go_ret
      exact ⟨_, _, rfl, ho, hb⟩
end Go.Proofs.YtmefepjjlhphnaaDoor
