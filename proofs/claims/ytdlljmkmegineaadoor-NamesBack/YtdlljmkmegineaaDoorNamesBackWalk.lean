/- joistlaw06.NamesBack: the walk. -/
import Derived.Test.YtdlljmkmegineaaDoorSmallNames
namespace Go.Proofs.YtdlljmkmegineaaDoor
open Go.RowKit
set_option linter.unusedVariables false
set_option linter.unusedSimpArgs false

theorem ofList (s : ByteArray) : (⟨s.data.toList.toArray⟩ : ByteArray) = s := by cases s; simp
set_option maxRecDepth 100000
theorem namesBack_walk (w : World) (s : ByteArray) (hs : s.size ≤ maxLen) (ao : Option Addr) (n cap : Nat) (zs : List Int) (hsl : Sl .u8 w ao n cap zs) (hwf : ∀ z ∈ zs, (Lit.int .u8 z).wf = true) (hreach : cap * 1 ≤ 140737488351232) :
    Calls Tryd.prog 5 #[.string s, .slice ao n cap] w fun e w' => e = .returned (.bool true) ∧ Below w.heap.size w w' := by
  have hs' : s.size ≤ 9223372036854775807 := by unfold maxLen at hs; omega
  have hb := bytes_wf hwf
  have c9 := fun w => right_any s w hs'
  -- what was written is read
  have cR : okS s.data.toList = true → ∀ g w, Sl .u8 w (some ⟨g, 0, none⟩) 16 16 (pad s.data.toList) → Calls Tryd.prog 15 #[.slice (some ⟨g, 0, none⟩) 16 16] w fun e w' => e = .returned (.tuple #[.string s, .bool true]) ∧ Below w.heap.size w w' := fun hok g w hS => by
    have h := read_any (some ⟨g, 0, none⟩) 16 16 (pad s.data.toList) w hS (pad_bytes _) (by decide)
    have e1 : readB (pad s.data.toList) = true := by rw [readB_eq (pad_length (okS_le hok).1), strip_pad hok]; exact hok
    rwa [readT_t e1, e1, strip_pad hok, ofList] at h
  have cB := bytes_ok s
  have cE := bytes_bad s
  -- the second part
  have c2 : ∀ w', Sl .u8 w' ao n cap zs → Calls Tryd.prog 15 #[.slice ao n cap] w' fun e w'' => e = .returned (.tuple #[.string ⟨(readT zs).toArray⟩, .bool (readB zs)]) ∧ Below w'.heap.size w' w'' := fun w' h => read_any ao n cap zs w' h hb (by omega)
  have hlen := hsl.len
  cases hR : readB zs with
  | false =>
    rw [readT_f hR, hR] at c2
    cases hok : okS s.data.toList with
    | false =>
      have c14 := fun w => cE w hs' hok
      have hne : s.data.toList ≠ [] := fun e => by rw [e] at hok; exact absurd hok (by decide)
      have hq := eqb_ne hne
      have he := emp_f hq
      rw [okS_ne hne] at hok
      rw [hok] at c9
      clear cR cB cE hok hR hne hb hlen hwf
      go_enter Tryd.func5, Tryd.ntmps5
      go_wp2_with (first
        | (go_at_call 8; with_reducible refine (small_any _).mono ?_; rintro e w1 ⟨rfl, hb1⟩)
        | (go_at_call 14; with_reducible refine (c14 _).mono ?_; rintro e w2 ⟨rfl, hb2⟩)
        | (go_at_call 9; with_reducible refine (c9 _).mono ?_; rintro e w3 ⟨rfl, hb3⟩; have h3 := next (next hb1 hb2) hb3; have slb := hsl.below h3)
        | (go_at_call 15; with_reducible refine (c2 _ slb).mono ?_; rintro e w4 ⟨rfl, hb4⟩))
      go_ret
      exact ⟨rfl, next h3 hb4⟩
    | true =>
      have c14 := fun w => cB w hs' hok
      have c15 := cR hok
      by_cases hne : s.data.toList = []
      · have hq := eqb_nil hne
        have he := emp_t hq
        clear cR cB cE hok hR hne hb hlen hwf
        go_enter Tryd.func5, Tryd.ntmps5
        go_wp2_with (first
          | (go_at_call 8; with_reducible refine (small_any _).mono ?_; rintro e w1 ⟨rfl, hb1⟩)
          | (go_at_call 14; with_reducible refine (c14 _).mono ?_; rintro e w2 ⟨g, rfl, own2, hb2⟩; have sl2 := own2.sl)
          | (go_at_call 15; with_reducible refine (c15 _ _ sl2).mono ?_; rintro e w3 ⟨rfl, hb3⟩; have h3 := next (next hb1 hb2) hb3; have slb := hsl.below h3)
          | (go_at_call 15; with_reducible refine (c2 _ slb).mono ?_; rintro e w4 ⟨rfl, hb4⟩))
        go_ret
        exact ⟨rfl, next h3 hb4⟩
      · have hq := eqb_ne hne
        have he := emp_f hq
        rw [okS_ne hne] at hok
        rw [hok] at c9
        clear cR cB cE hok hR hne hb hlen hwf
        go_enter Tryd.func5, Tryd.ntmps5
        go_wp2_with (first
          | (go_at_call 8; with_reducible refine (small_any _).mono ?_; rintro e w1 ⟨rfl, hb1⟩)
          | (go_at_call 14; with_reducible refine (c14 _).mono ?_; rintro e w2 ⟨g, rfl, own2, hb2⟩)
          | (go_at_call 9; with_reducible refine (c9 _).mono ?_; rintro e w2b ⟨rfl, hb2b⟩; have sl2 := own2.sl.below hb2b)
          | (go_at_call 15; with_reducible refine (c15 _ _ sl2).mono ?_; rintro e w3 ⟨rfl, hb3⟩; have h3 := next (next (next hb1 hb2) hb2b) hb3; have slb := hsl.below h3)
          | (go_at_call 15; with_reducible refine (c2 _ slb).mono ?_; rintro e w4 ⟨rfl, hb4⟩))
        go_ret
        exact ⟨rfl, next h3 hb4⟩
  | true =>
    have h16 : zs.length = 16 := by
      by_cases e : zs.length = 16
      · exact e
      · rw [(readB_len e).1] at hR; cases hR
    have hT := readT_t hR
    have hok2 : okS (strip (un zs)) = true := by rw [← readB_eq h16]; exact hR
    obtain ⟨t, ht⟩ : ∃ t : ByteArray, (⟨(readT zs).toArray⟩ : ByteArray) = t := ⟨_, rfl⟩
    have htl : t.data.toList = strip (un zs) := by rw [← ht, mk_list, hT]
    rw [hR, ht] at c2
    have cX : ∀ w, Calls Tryd.prog 14 #[.string t] w fun e w' => ∃ g, e = .returned (.tuple #[.slice (some ⟨g, 0, none⟩) 16 16, .int .i64 0]) ∧ Own .u8 5 w.heap.size w' (some ⟨g, 0, none⟩) 16 16 zs ∧ Below w.heap.size w w' := fun w => by
      have h := bytes_ok t w (by rw [← ht, mk_size, hT]; have := (okS_le hok2).1; omega) (by rw [htl]; exact hok2)
      rwa [htl, pad_strip hb h16] at h
    clear hT hok2 ht htl h16
    cases hok : okS s.data.toList with
    | false =>
      have c14 := fun w => cE w hs' hok
      have hne : s.data.toList ≠ [] := fun e => by rw [e] at hok; exact absurd hok (by decide)
      have hq := eqb_ne hne
      have he := emp_f hq
      rw [okS_ne hne] at hok
      rw [hok] at c9
      clear cR cB cE hok hR hne hb hlen hwf
      go_enter Tryd.func5, Tryd.ntmps5
      go_wp2_with (first
        | (go_at_call 8; with_reducible refine (small_any _).mono ?_; rintro e w1 ⟨rfl, hb1⟩)
        | (go_at_call 14; with_reducible refine (c14 _).mono ?_; rintro e w2 ⟨rfl, hb2⟩)
        | (go_at_call 9; with_reducible refine (c9 _).mono ?_; rintro e w3 ⟨rfl, hb3⟩; have h3 := next (next hb1 hb2) hb3; have slb := hsl.below h3)
        | (go_at_call 15; with_reducible refine (c2 _ slb).mono ?_; rintro e w4 ⟨rfl, hb4⟩)
          | (go_at_call 14; with_reducible refine (cX _).mono ?_; rintro e w5 ⟨gx, rfl, own5, hb5⟩; have h5 := next (next h3 hb4) hb5; have t1 := own5.sl.text (P := Tryd.prog) Tryd.underlying25 Tryd.underlying5 Tryd.underlying9; have t2 := (hsl.below h5).text (P := Tryd.prog) Tryd.underlying25 Tryd.underlying5 Tryd.underlying9))
      go_ret
      exact ⟨rfl, h5⟩
    | true =>
      have c14 := fun w => cB w hs' hok
      have c15 := cR hok
      by_cases hne : s.data.toList = []
      · have hq := eqb_nil hne
        have he := emp_t hq
        clear cR cB cE hok hR hne hb hlen hwf
        go_enter Tryd.func5, Tryd.ntmps5
        go_wp2_with (first
          | (go_at_call 8; with_reducible refine (small_any _).mono ?_; rintro e w1 ⟨rfl, hb1⟩)
          | (go_at_call 14; with_reducible refine (c14 _).mono ?_; rintro e w2 ⟨g, rfl, own2, hb2⟩; have sl2 := own2.sl)
          | (go_at_call 15; with_reducible refine (c15 _ _ sl2).mono ?_; rintro e w3 ⟨rfl, hb3⟩; have h3 := next (next hb1 hb2) hb3; have slb := hsl.below h3)
          | (go_at_call 15; with_reducible refine (c2 _ slb).mono ?_; rintro e w4 ⟨rfl, hb4⟩)
          | (go_at_call 14; with_reducible refine (cX _).mono ?_; rintro e w5 ⟨gx, rfl, own5, hb5⟩; have h5 := next (next h3 hb4) hb5; have t1 := own5.sl.text (P := Tryd.prog) Tryd.underlying25 Tryd.underlying5 Tryd.underlying9; have t2 := (hsl.below h5).text (P := Tryd.prog) Tryd.underlying25 Tryd.underlying5 Tryd.underlying9))
        go_ret
        exact ⟨rfl, h5⟩
      · have hq := eqb_ne hne
        have he := emp_f hq
        rw [okS_ne hne] at hok
        rw [hok] at c9
        clear cR cB cE hok hR hne hb hlen hwf
        go_enter Tryd.func5, Tryd.ntmps5
        go_wp2_with (first
          | (go_at_call 8; with_reducible refine (small_any _).mono ?_; rintro e w1 ⟨rfl, hb1⟩)
          | (go_at_call 14; with_reducible refine (c14 _).mono ?_; rintro e w2 ⟨g, rfl, own2, hb2⟩)
          | (go_at_call 9; with_reducible refine (c9 _).mono ?_; rintro e w2b ⟨rfl, hb2b⟩; have sl2 := own2.sl.below hb2b)
          | (go_at_call 15; with_reducible refine (c15 _ _ sl2).mono ?_; rintro e w3 ⟨rfl, hb3⟩; have h3 := next (next (next hb1 hb2) hb2b) hb3; have slb := hsl.below h3)
          | (go_at_call 15; with_reducible refine (c2 _ slb).mono ?_; rintro e w4 ⟨rfl, hb4⟩)
          | (go_at_call 14; with_reducible refine (cX _).mono ?_; rintro e w5 ⟨gx, rfl, own5, hb5⟩; have h5 := next (next h3 hb4) hb5; have t1 := own5.sl.text (P := Tryd.prog) Tryd.underlying25 Tryd.underlying5 Tryd.underlying9; have t2 := (hsl.below h5).text (P := Tryd.prog) Tryd.underlying25 Tryd.underlying5 Tryd.underlying9))
        go_ret
        exact ⟨rfl, h5⟩
end Go.Proofs.YtdlljmkmegineaaDoor
