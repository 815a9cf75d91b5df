/- joistlaw06.NamesLengths: the walk. -/
import Derived.Test.YtdlljmkmegineaaDoorSmallNames
namespace Go.Proofs.YtdlljmkmegineaaDoor
open Go.RowKit
set_option linter.unusedVariables false
set_option linter.unusedSimpArgs false

theorem ext_list (s : ByteArray) (a b : Nat) (h : a ≤ b) : (s.extract a b).data.toList = (s.data.toList.drop a).take (b - a) := by
  rw [ByteArray.data_extract, Array.toList_extract, List.extract_eq_take_drop]
theorem app_list (s t : ByteArray) : (s ++ t).data.toList = s.data.toList ++ t.data.toList := by
  rw [ByteArray.data_append, Array.toList_append]
theorem take_drop_dec (l : List UInt8) (i k : Nat) (h : Named (l.take i)) (hk : Named ((l.drop i).take k)) : Named (l.take (i + k)) := by
  rw [List.take_add]
  exact h.append hk
theorem named_first {l : List UInt8} {r k : Nat} (hl : l ≠ []) (hd : decL l = (r, k)) (ho : okR r) : Named (l.take k) := by
  have h1 : (decL l).1 ≠ 65533 := by rw [hd]; exact ho.2.2
  obtain ⟨hc, he⟩ := decL_ok l h1
  rw [hd] at he
  obtain ⟨hv, hk, hl2, hlen⟩ := enc_runeL l hl hc
  rw [← he] at hv hk hl2 hlen
  have hl3 : l = Lib.encodeRune r ++ l.drop k := hl2
  have hlen' : (Lib.encodeRune r).length = k := hlen
  have e : l.take k = Lib.encodeRune r ++ [] := by
    rw [List.append_nil]
    refine (congrArg (List.take k) hl3).trans ?_
    rw [List.take_append_of_le_length (by omega), List.take_of_length_le (by omega)]
  rw [e]
  exact .cons r [] hv ho .nil

set_option maxRecDepth 100000
theorem namesLengths_walk (w : World) (s : ByteArray) (hs : s.size ≤ maxLen) :
    Calls Tryd.prog 7 #[.string s] w fun e w' => e = .returned (.bool true) ∧ Below w.heap.size w w' := by
  have hs' : s.size ≤ 9223372036854775807 := by unfold maxLen at hs; omega
  have c9 := fun w => right_any s w hs'
  cases hn : nameB s.data.toList with
  | false =>
    rw [hn] at c9
    go_enter Tryd.func7, Tryd.ntmps7
    go_wp2_with (first
      | (go_at_call 8; with_reducible refine (small_any _).mono ?_; rintro e w1 ⟨rfl, hb1⟩)
      | (go_at_call 9; with_reducible refine (c9 _).mono ?_; rintro e w2 ⟨rfl, hb2⟩))
    go_ret
    exact ⟨rfl, next hb1 hb2⟩
  | true =>
    have hN : Hid (NameL s.data.toList) := (nameB_iff _).1 hn
    have h1 : ¬ (s.size : Int) < 1 := by have h := hN.1; have e : s.data.toList.length = s.size := rfl; omega
    have h2 : ¬ 16 < (s.size : Int) := by have h := hN.2.1; have e : s.data.toList.length = s.size := rfl; omega
    rw [hn] at c9
    go_enter Tryd.func7, Tryd.ntmps7
    go_wp2_with (first
      | (go_at_call 8; with_reducible refine (small_any _).mono ?_; rintro e w1 ⟨rfl, hb1⟩)
      | (go_at_call 9; with_reducible refine (c9 _).mono ?_; rintro e w2 ⟨rfl, hb2⟩))
    have hbw2 : Below w.heap.size w w2 := next hb1 hb2
    clear hb1 hb2
    go_loopw [] (fun wr => ∃ pos : Nat, wr.heap[w2.heap.size]? = some (.stringIter s pos) ∧ Below w.heap.size w wr ∧ Hid (pos ≤ s.size ∧ Named (s.data.toList.take pos) ∧ Named (tl s pos))) (fun wr => s.size - wr.iterPos w2.heap.size)
    case atStart =>
      exact ⟨0, World.iter_heap w2 s 0, hbw2.alloc hbw2.size _, ⟨Nat.zero_le _, .nil, hN.2.2⟩⟩
    case round =>
      obtain ⟨pos, hit, hbw, hq⟩ := hrel
      have hsz : w2.heap.size < wr.heap.size := (Array.getElem?_eq_some_iff.1 hit).1
      by_cases hp : pos < s.size
      · have hnx : ∀ ty, (Instr.next (.pointer (some ⟨w2.heap.size, 0, none⟩)) true ty).run Tryd.prog wr = _ := fun ty => Lib.run_next_any_at wr w2.heap.size s pos ty hit hp
        obtain ⟨k1, k2, k3⟩ := tl_step hp
        rw [tl_dec hp] at hnx
        obtain ⟨r, k, hd⟩ : ∃ r k, decL (tl s pos) = (r, k) := ⟨_, _, rfl⟩
        rw [hd] at hnx k1 k2 k3
        simp only at hnx k1 k2 k3
        have hst : okR r ∧ Named (tl s (pos + k)) := by
          have := (named_step (tl s pos) (tl_ne hp)).1 hq.2.2
          rw [hd, tl_drop] at this
          exact this
        have hr0 : ((r : Int) == 0) = false := beq_eq_false_iff_ne.2 (by have := hst.1.1; omega)
        have hit2 := Lib.iterAt_heap wr w2.heap.size s pos (pos + k) hit
        have hbw2' := Lib.below_iterAt hbw (k := w2.heap.size) hbw2.size s (pos + k)
        have hst' : Hid (pos + k ≤ s.size ∧ Named (s.data.toList.take (pos + k)) ∧ Named (tl s (pos + k))) := ⟨k2, take_drop_dec _ _ _ hq.2.1 (named_first (tl_ne hp) hd hst.1), hst.2⟩
        clear hst
        by_cases h0 : pos = 0
        · subst h0
          rw [Nat.zero_add] at hit2 hbw2' hst'
          go_wp2
          refine ⟨⟨k, hit2, hbw2', hst'⟩, ?_⟩
          simp only [World.iterPos, hit2, hit]
          omega
        · have h0' : 0 < (pos : Int) := by omega
          have cE : ∀ w, Calls Tryd.prog 9 #[.string (s.extract 0 pos)] w fun e w' => e = .returned (.bool true) ∧ Below w.heap.size w w' := fun w => by
            have e1 : (s.extract 0 pos).data.toList = s.data.toList.take pos := by rw [ext_list _ _ _ (Nat.zero_le _)]; rfl
            have e2 : (s.data.toList.take pos).length = pos := by rw [List.length_take]; exact Nat.min_eq_left hq.1
            have e3 : (s.extract 0 pos).size = pos := (congrArg List.length e1).trans e2
            have h := right_any (s.extract 0 pos) w (by omega)
            rwa [e1, nameB_t ⟨by omega, by omega, hq.2.1⟩] at h
          go_wp2_with (first | (go_at_call 9; with_reducible refine (cE _).mono ?_; rintro e w3 ⟨rfl, hb3⟩))
          have hit3 : w3.heap[w2.heap.size]? = some (.stringIter s (pos + k)) := (hb3.block _ (by rw [Lib.iterAt_size]; exact hsz)).trans hit2
          refine ⟨⟨pos + k, hit3, next hbw2' hb3, hst'⟩, ?_⟩
          simp only [World.iterPos, hit3, hit]
          omega
      · have hnx : ∀ ty, (Instr.next (.pointer (some ⟨w2.heap.size, 0, none⟩)) true ty).run Tryd.prog wr = _ := fun ty => Lib.run_next_end_at wr w2.heap.size s pos ty hit hp
        have d1 : ∀ w, Calls Tryd.prog 9 #[.string (s ++ ⟨#[0]⟩)] w fun e w' => e = .returned (.bool false) ∧ Below w.heap.size w w' := fun w => by
          have h := right_any (s ++ ⟨#[0]⟩) w (by rw [ByteArray.size_append]; have : (⟨#[0]⟩ : ByteArray).size = 1 := rfl; omega)
          rwa [app_list, nameB_f (fun hN => by have := hN.2.2.big 0 (by simp); exact absurd this (by decide))] at h
        have d2 : ∀ w, Calls Tryd.prog 9 #[.string (⟨#[32]⟩ ++ s)] w fun e w' => e = .returned (.bool false) ∧ Below w.heap.size w w' := fun w => by
          have h := right_any (⟨#[32]⟩ ++ s) w (by rw [ByteArray.size_append]; have : (⟨#[32]⟩ : ByteArray).size = 1 := rfl; omega)
          rwa [app_list, nameB_f (fun hN => by have := hN.2.2.big 32 (by simp); exact absurd this (by decide))] at h
        have d3 : ∀ (x : ByteArray) w, 16 < x.size → x.size ≤ 9223372036854775807 → Calls Tryd.prog 9 #[.string x] w fun e w' => e = .returned (.bool false) ∧ Below w.heap.size w w' := fun x w hx hx' => by
          have h := right_any x w hx'
          rwa [nameB_f (fun hN => by have h1 := hN.2.1; have e : x.data.toList.length = x.size := rfl; omega)] at h
        go_wp2_with (first
          | (go_at_call 9; with_reducible refine (d1 _).mono ?_; rintro e w3 ⟨rfl, hb3⟩)
          | (go_at_call 9; with_reducible refine (d2 _).mono ?_; rintro e w4 ⟨rfl, hb4⟩)
          | (go_at_call 9; refine (d3 _ _ (by simp only [ByteArray.size_append]; omega) (by simp only [ByteArray.size_append]; omega)).mono ?_; rintro e w5 ⟨rfl, hb5⟩))
        go_ret
        exact ⟨rfl, next (next (next hbw hb3) hb4) hb5⟩
end Go.Proofs.YtdlljmkmegineaaDoor
