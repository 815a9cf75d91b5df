/- joistref14.Right, Same (of alike ones) by their contracts. -/
import Derived.Test.YthkloknongkpdaaRefTreA
namespace Go.Proofs.Ythkloknongkpdaa
set_option maxRecDepth 100000
open Go.RowKit
set_option linter.unusedVariables false
set_option linter.unusedSimpArgs false
set_option maxRecDepth 100000

/-- Where an extent does not fit first, as the document asks. -/
theorem fitX_not {P a : Int} {f : Bool} {x : Blk} (h : ¬ FitX P a f x) : ((x.pos != a) = true) ∨ ((x.pos != a) = false ∧ x.sz < 1) ∨ ((x.pos != a) = false ∧ ¬ x.sz < 1 ∧ P - a < x.sz) ∨ ((x.pos != a) = false ∧ ¬ x.sz < 1 ∧ ¬ P - a < x.sz ∧ x.ix < 0) ∨ ((x.pos != a) = false ∧ ¬ x.sz < 1 ∧ ¬ P - a < x.sz ∧ ¬ x.ix < 0 ∧ 2 < x.ix) ∨ ((x.pos != a) = false ∧ ¬ x.sz < 1 ∧ ¬ P - a < x.sz ∧ ¬ x.ix < 0 ∧ ¬ 2 < x.ix ∧ (x.ix == 1) = true ∧ (x.sz != 1) = true) ∨ ((x.pos != a) = false ∧ ¬ x.sz < 1 ∧ ¬ P - a < x.sz ∧ ¬ x.ix < 0 ∧ ¬ 2 < x.ix ∧ (x.ix == 1) = false ∧ (x.ix == 0) = true ∧ f = true) := by
  unfold FitX at h
  by_cases c1 : x.pos = a
  · have d1 : (x.pos != a) = false := by simpa using c1
    by_cases c2 : x.sz < 1
    · exact .inr (.inl ⟨d1, c2⟩)
    · by_cases c3 : P - a < x.sz
      · exact .inr (.inr (.inl ⟨d1, c2, c3⟩))
      · by_cases c4 : x.ix < 0
        · exact .inr (.inr (.inr (.inl ⟨d1, c2, c3, c4⟩)))
        · by_cases c5 : 2 < x.ix
          · exact .inr (.inr (.inr (.inr (.inl ⟨d1, c2, c3, c4, c5⟩))))
          · by_cases c6 : x.ix = 1
            · by_cases c7 : x.sz = 1
              · exact (h ⟨c1, by omega, by omega, by omega, by omega, fun _ => c7, fun c => by omega⟩).elim
              · exact .inr (.inr (.inr (.inr (.inr (.inl ⟨d1, c2, c3, c4, c5, by simpa using c6, by simpa using c7⟩)))))
            · by_cases c8 : f = true ∧ x.ix = 0
              · exact .inr (.inr (.inr (.inr (.inr (.inr ⟨d1, c2, c3, c4, c5, by simpa using c6, by simpa using c8.2, c8.1⟩)))))
              · exact (h ⟨c1, by omega, by omega, by omega, by omega, fun c => (c6 c).elim, c8⟩).elim
  · exact .inl (by simpa using c1)
theorem FitX.all {P a : Int} {f : Bool} {x : Blk} (h : FitX P a f x) : (x.pos != a) = false ∧ ¬ x.sz < 1 ∧ ¬ P - a < x.sz ∧ ¬ x.ix < 0 ∧ ¬ 2 < x.ix ∧ (((x.ix == 1) = true ∧ (x.sz != 1) = false ∧ (x.ix == 0) = false) ∨ ((x.ix == 1) = false ∧ (x.ix == 0) = false) ∨ ((x.ix == 1) = false ∧ (x.ix == 0) = true ∧ f = false)) := by
  obtain ⟨h1, h2, h3, h4, h5, h6, h7⟩ := h
  refine ⟨by simpa using h1, by omega, by omega, by omega, by omega, ?_⟩
  by_cases c1 : x.ix = 1
  · exact .inl ⟨by simpa using c1, by simpa using h6 c1, by simp; omega⟩
  · by_cases c0 : x.ix = 0
    · refine .inr (.inr ⟨by simpa using c1, by simpa using c0, ?_⟩)
      cases f with
      | true => exact (h7 ⟨rfl, c0⟩).elim
      | false => rfl
    · exact .inr (.inl ⟨by simpa using c1, by simpa using c0⟩)

set_option maxHeartbeats 2000000 in
theorem rrightX_bs (P : Int) (ao : Option Addr) (n cap : Nat) (l : List Blk) (w : World) (h : Bs w ao n cap l) (hn : n ≤ 9223372036854775807) :
    Calls Try.prog 15 #[.int .i64 P, .slice ao n cap] w fun e w' => e = .returned (.bool (rxB P l)) ∧ Below w.heap.size w w' := by
  have hl := h.len
  by_cases hP : 0 ≤ P ∧ P ≤ 64
  · obtain ⟨p0, p1⟩ := hP
    have HR : Hid (∀ b, (LayX P 0 false l ↔ b = true) → rxB P l = b) := hid (fun b hb => by
      cases b with
      | true => exact rxB_t ⟨⟨p0, p1⟩, hb.2 rfl⟩
      | false => exact rxB_f fun h => by have := hb.1 h.2; cases this)
    go_enter Try.func15, Try.ntmps15
    go_wp2
    go_loopw [5, 6] (fun s5 s6 wr => ∃ (k : Nat) (g : Int) (f : Bool), k ≤ n ∧ s5 = .int .i64 g ∧ s6 = .int .i64 k ∧ 0 ≤ g ∧ g ≤ P ∧ Hid (f = true ↔ 0 < k ∧ (ba l (k - 1)).ix = 0) ∧ Hid (LayX P 0 false l ↔ LayX P g f (l.drop k)) ∧ Below w.heap.size w wr) (fun _ s6 _ => n - (intOf s6).toNat)
    case atStart => exact ⟨0, 0, false, Nat.zero_le _, rfl, rfl, Int.le_refl _, p0, hid (by simp), hid Iff.rfl, Below.refl _ _⟩
    case round =>
      obtain ⟨k, g, f, hk, rfl, rfl, g0, g1, HFF, HL, hb⟩ := hrel
      by_cases hlt : k < n
      · obtain ⟨b, o, rfl, _, _⟩ := h.here (by omega)
        obtain ⟨c0, c1, c2⟩ := h.at hb hlt
        have hki : (k : Int) < (n : Int) := by omega
        have HD := hid (layX_drop (P := P) (a := g) (f := f) (l := l) (k := k) (by omega))
        have HBX : Hid (∀ o : Obj, Below w.heap.size w (wr.alloc o)) := hid (fun o => hb.alloc hb.size o)
        have hwx : IntKind.i64.wrap (P - g) = P - g := IntWalk.i64_in _ ⟨by omega, by omega⟩
        by_cases hfit : FitX P g f (ba l k)
        · have HN : Hid (LayX P 0 false l ↔ LayX P (g + (ba l k).sz) (frX (ba l k)) (l.drop (k + 1))) := hid (by rw [HL.out, HD.out]; exact ⟨fun h => h.2, fun h => ⟨hfit, h⟩⟩)
          have HF2 : Hid (frX (ba l k) = true ↔ 0 < k + 1 ∧ (ba l (k + 1 - 1)).ix = 0) := hid (by simp [frX])
          obtain ⟨v0, v1, v2, v3, v4, v5⟩ := hfit.all
          have hg2 : 0 ≤ g + (ba l k).sz ∧ g + (ba l k).sz ≤ P := by omega
          have hw2 : IntKind.i64.wrap (g + (ba l k).sz) = g + (ba l k).sz := IntWalk.i64_in _ ⟨by omega, by omega⟩
          by_cases hk0 : k = 0
          · have hkz : ¬ (0 < (k : Int)) := by omega
            have hkz' : ¬ (0 < k) := by omega
            generalize ba l k = s at *
            obtain ⟨p, z, u⟩ := s
            simp only at c0 c1 c2 v0 v1 v2 v3 v4 v5 hg2 hw2
            clear hfit HL HD h HR HFF hk0
            rcases v5 with ⟨v5, v6, v7⟩ | ⟨v5, v7⟩ | ⟨v5, v7, _⟩
            all_goals
              go_wp2
              go_roundw
              case rel => exact ⟨k + 1, g + z, _, by omega, rfl, by go_num, hg2.1, hg2.2, HF2, HN, HBX.out _⟩
              case measure => simp [intOf]; omega
          · have hkz : 0 < (k : Int) := by omega
            have hkz' : 0 < k := by omega
            obtain ⟨k1, hk1⟩ : ∃ k1, k1 + 1 = k := ⟨k - 1, by omega⟩
            have z1 : IntKind.i64.wrap ((k : Int) - 1) = (k1 : Int) := by rw [IntWalk.i64_in _ ⟨by omega, by omega⟩]; omega
            have hk1n : (k1 : Int) < (n : Int) := by omega
            obtain ⟨d0, d1, d2⟩ := (h.below hb).at ((Below.refl _ wr).alloc (Nat.le_refl _) (.cells #[.int .i64 (ba l k).pos, .int .i64 (ba l k).sz, .int .i64 (ba l k).ix] 42)) (show k1 < n by omega)
            have HFK : Hid (f = false → ((ba l k1).ix == 0) = false) := hid (fun hf => by
              have h1 : ¬ (f = true) := by rw [hf]; simp
              have h2 : ¬ (ba l k1).ix = 0 := fun c => h1 (HFF.out.2 ⟨hkz', by rw [show k - 1 = k1 by omega]; exact c⟩)
              simpa using h2)
            generalize ba l k1 = q at *
            generalize ba l k = s at *
            obtain ⟨p, z, u⟩ := s
            obtain ⟨qp, qz, qu⟩ := q
            simp only at c0 c1 c2 d0 d1 d2 v0 v1 v2 v3 v4 v5 hg2 hw2 HFK
            clear hfit HL HD h HR HFF hk0 hk1
            rcases v5 with ⟨v5, v6, v7⟩ | ⟨v5, v7⟩ | ⟨v5, v7, v8⟩
            · go_wp2
              go_roundw
              case rel => exact ⟨k + 1, g + z, _, by omega, rfl, by go_num, hg2.1, hg2.2, HF2, HN, HBX.out _⟩
              case measure => simp [intOf]; omega
            · go_wp2
              go_roundw
              case rel => exact ⟨k + 1, g + z, _, by omega, rfl, by go_num, hg2.1, hg2.2, HF2, HN, HBX.out _⟩
              case measure => simp [intOf]; omega
            · have v9 := HFK.out v8
              go_wp2
              go_roundw
              case rel => exact ⟨k + 1, g + z, _, by omega, rfl, by go_num, hg2.1, hg2.2, HF2, HN, HBX.out _⟩
              case measure => simp [intOf]; omega
        · have HF : Hid (rxB P l = false) := hid (HR.out false (by rw [HL.out, HD.out]; exact ⟨fun h => absurd h.1 hfit, fun h => by cases h⟩))
          have hd := fitX_not hfit
          by_cases hff : f = true
          · obtain ⟨hk0, hix⟩ := HFF.out.1 hff
            have hkz : 0 < (k : Int) := by omega
            obtain ⟨k1, hk1⟩ : ∃ k1, k1 + 1 = k := ⟨k - 1, by omega⟩
            have z1 : IntKind.i64.wrap ((k : Int) - 1) = (k1 : Int) := by rw [IntWalk.i64_in _ ⟨by omega, by omega⟩]; omega
            have hk1n : (k1 : Int) < (n : Int) := by omega
            obtain ⟨d0, d1, d2⟩ := (h.below hb).at ((Below.refl _ wr).alloc (Nat.le_refl _) (.cells #[.int .i64 (ba l k).pos, .int .i64 (ba l k).sz, .int .i64 (ba l k).ix] 42)) (show k1 < n by omega)
            have hq : ((ba l k1).ix == 0) = true := by rw [show k - 1 = k1 by omega] at hix; simpa using hix
            generalize ba l k1 = q at *
            generalize ba l k = s at *
            obtain ⟨p, z, u⟩ := s
            obtain ⟨qp, qz, qu⟩ := q
            simp only at c0 c1 c2 d0 d1 d2 hd hq
            clear hfit HL HD h HR HFF hk1 hix
            rcases hd with a1 | ⟨a1, a2⟩ | ⟨a1, a2, a3⟩ | ⟨a1, a2, a3, a4⟩ | ⟨a1, a2, a3, a4, a5⟩ | ⟨a1, a2, a3, a4, a5, a6, a7⟩ | ⟨a1, a2, a3, a4, a5, a6, a7, a8⟩
            all_goals
              go_wp2
              go_ret
              exact ⟨ret_bool HF.out.symm, HBX.out _⟩
          · generalize ba l k = s at *
            obtain ⟨p, z, u⟩ := s
            simp only at c0 c1 c2 hd
            clear hfit HL HD h HR HFF
            rcases hd with a1 | ⟨a1, a2⟩ | ⟨a1, a2, a3⟩ | ⟨a1, a2, a3, a4⟩ | ⟨a1, a2, a3, a4, a5⟩ | ⟨a1, a2, a3, a4, a5, a6, a7⟩ | ⟨a1, a2, a3, a4, a5, a6, a7, a8⟩
            all_goals first
              | exact absurd a8 hff
              | (go_wp2
                 go_ret
                 exact ⟨ret_bool HF.out.symm, HBX.out _⟩)
      · obtain rfl : k = n := by omega
        have hkz : ¬ ((k : Int) < (k : Int)) := by omega
        by_cases hg : g = P
        · have HF : Hid (rxB P l = true) := hid (HR.out true (by rw [HL.out, layX_end (by omega)]; exact ⟨fun _ => rfl, fun _ => hg⟩))
          have hgd : (g == P) = true := by simpa using hg
          clear HL HR h HFF hg
          go_wp2
          go_ret
          exact ⟨ret_bool HF.out.symm, hb⟩
        · have HF : Hid (rxB P l = false) := hid (HR.out false (by rw [HL.out, layX_end (by omega)]; exact ⟨fun c => absurd c hg, fun c => by cases c⟩))
          have hgd : (g == P) = false := by simpa using hg
          clear HL HR h HFF hg
          go_wp2
          go_ret
          exact ⟨ret_bool HF.out.symm, hb⟩
  · rw [rxB_f (fun c => hP c.1)]
    clear h
    by_cases c : P < 0
    · go_enter Try.func15, Try.ntmps15
      go_wp2
      go_ret
      exact ⟨rfl, Below.refl _ _⟩
    · have c2 : 64 < P := by omega
      clear hP
      go_enter Try.func15, Try.ntmps15
      go_wp2
      go_ret
      exact ⟨rfl, Below.refl _ _⟩
theorem rsameX_eq (ao : Option Addr) (n cap : Nat) (l : List Blk) (bo : Option Addr) (c : Nat) (w : World) (h : Bs w ao n cap l) (g : Bs w bo n c l) (hn : n ≤ 9223372036854775807) :
    Calls Try.prog 12 #[.slice ao n cap, .slice bo n c] w fun e w' => e = .returned (.bool true) ∧ Below w.heap.size w w' := by
  have hl := h.len
  go_enter Try.func12, Try.ntmps12
  go_wp2
  go_loopw [5] (fun s5 wr => ∃ k : Nat, k ≤ n ∧ s5 = .int .i64 k ∧ Below w.heap.size w wr) (fun s5 _ => n - (intOf s5).toNat)
  case atStart => exact ⟨0, Nat.zero_le _, rfl, Below.refl _ _⟩
  case round =>
    obtain ⟨k, hk, rfl, hb⟩ := hrel
    by_cases hlt : k < n
    · obtain ⟨b, o, rfl, _, _⟩ := h.here (by omega)
      obtain ⟨b2, o2, rfl, _, _⟩ := g.here (by omega)
      obtain ⟨c0, c1, c2⟩ := h.at hb hlt
      obtain ⟨d0, d1, d2⟩ := g.at hb hlt
      have hki : (k : Int) < (n : Int) := by omega
      generalize ba l k = s at *
      obtain ⟨p, z, u⟩ := s
      simp only at c0 c1 c2 d0 d1 d2
      clear h g
      go_wp2
      go_quiet (fail)
      go_wp2
      go_roundw
      case rel => exact ⟨k + 1, by omega, by go_num, below_drewN hb _⟩
      case measure => simp [intOf]; omega
    · obtain rfl : k = n := by omega
      clear h g
      go_wp2
      go_ret
      exact ⟨rfl, hb⟩
end Go.Proofs.Ythkloknongkpdaa
