/- joistref10.Right, Gaps, Behind by their contracts. -/
import Derived.Test.YtclkooaepfedaaaDoorGapC
namespace Go.Proofs.YtclkooaepfedaaaDoor
set_option maxRecDepth 100000
open Go.RowKit
set_option linter.unusedVariables false
set_option linter.unusedSimpArgs false
set_option maxRecDepth 100000

/-- Where a block does not fit first, as the document asks. -/
theorem fit_not {f t : Int} {s : Spn} (h : ¬ FitP f t s) : s.pos < f ∨ (¬ s.pos < f ∧ t < s.pos) ∨ (¬ s.pos < f ∧ ¬ t < s.pos ∧ s.sz < 4) ∨ (¬ s.pos < f ∧ ¬ t < s.pos ∧ ¬ s.sz < 4 ∧ t - s.pos < s.sz) ∨ (¬ s.pos < f ∧ ¬ t < s.pos ∧ ¬ s.sz < 4 ∧ ¬ t - s.pos < s.sz ∧ (s.pos % 4 != 0) = true) ∨ (¬ s.pos < f ∧ ¬ t < s.pos ∧ ¬ s.sz < 4 ∧ ¬ t - s.pos < s.sz ∧ (s.pos % 4 != 0) = false ∧ (s.sz % 4 != 0) = true) := by
  unfold FitP at h
  by_cases a : s.pos < f
  · exact .inl a
  · by_cases b : t < s.pos
    · exact .inr (.inl ⟨a, b⟩)
    · by_cases c : s.sz < 4
      · exact .inr (.inr (.inl ⟨a, b, c⟩))
      · by_cases d : t - s.pos < s.sz
        · exact .inr (.inr (.inr (.inl ⟨a, b, c, d⟩)))
        · by_cases e : s.pos % 4 = 0
          · exact .inr (.inr (.inr (.inr (.inr ⟨a, b, c, d, by simpa using e, by simp; omega⟩))))
          · exact .inr (.inr (.inr (.inr (.inl ⟨a, b, c, d, by simpa using e⟩))))
theorem FitP.all {f t : Int} {s : Spn} (h : FitP f t s) : ¬ s.pos < f ∧ ¬ t < s.pos ∧ ¬ s.sz < 4 ∧ ¬ t - s.pos < s.sz ∧ (s.pos % 4 != 0) = false ∧ (s.sz % 4 != 0) = false := by
  obtain ⟨a, b, c, d, e⟩ := h
  exact ⟨by omega, by omega, by omega, by omega, by simpa using b, by simpa using e⟩
set_option maxHeartbeats 1000000 in
theorem rrightP_ps (f t : Int) (ao : Option Addr) (n cap : Nat) (l : List Spn) (w : World) (h : Ps w ao n cap l) (hn : n ≤ 9223372036854775807) :
    Calls Tryd.prog 40 #[.int .i64 f, .int .i64 t, .slice ao n cap] w fun e w' => e = .returned (.bool (rightPB f t l)) ∧ Below w.heap.size w w' := by
  have hl := h.len
  by_cases he : EndP f t
  · obtain ⟨u0, u1, u2, u3, u4⟩ := he.all
    have HR : Hid (∀ b, (LayP f t l ↔ b = true) → rightPB f t l = b) := fun b hb => by
      cases b with
      | true => exact rightPB_t ⟨he, hb.2 rfl⟩
      | false => exact rightPB_f fun h => by have := hb.1 h.2; cases this
    have ht : 0 ≤ t := by unfold EndP at he; omega
    have ht2 : t ≤ 2048 := by omega
    have hf0 : 0 ≤ f := by omega
    clear he
    go_enter Tryd.func40, Tryd.ntmps40
    go_wp2
    clear u0 u1 u2 u3 u4
    go_loopw [7, 8] (fun s7 s8 wr => ∃ (k : Nat) (g : Int), k ≤ n ∧ s7 = .int .i64 g ∧ s8 = .int .i64 k ∧ 0 ≤ g ∧ Hid (LayP f t l ↔ LayP g t (l.drop k)) ∧ Below w.heap.size w wr) (fun _ s8 _ => n - (intOf s8).toNat)
    case atStart => exact ⟨0, f, Nat.zero_le _, rfl, rfl, hf0, hid Iff.rfl, Below.refl _ _⟩
    case round =>
      obtain ⟨k, g, hk, rfl, rfl, hg, HL, hb⟩ := hrel
      by_cases hlt : k < n
      · obtain ⟨b, o, rfl, _, _⟩ := h.here (by omega)
        obtain ⟨c0, c1⟩ := h.at hb hlt
        have hrg := h.rgs hlt
        have hki : (k : Int) < (n : Int) := by omega
        have HD := hid (lay_drop (f := g) (t := t) (l := l) (k := k) (by omega))
        generalize pa l k = s at *
        by_cases hfit : FitP g t s
        · have HN : Hid (LayP f t l ↔ LayP s.fin t (l.drop (k + 1))) := hid (by rw [HL.out, HD.out]; exact ⟨fun h => h.2, fun h => ⟨hfit, h⟩⟩)
          obtain ⟨v0, v1, v2, v3, v4, v5⟩ := hfit.all
          obtain ⟨p, z⟩ := s
          simp only at c0 c1 v0 v1 v2 v3 v4 v5
          have w1 : IntKind.i64.wrap (t - p) = t - p := IntWalk.i64_in _ ⟨by omega, by omega⟩
          have w2 : IntKind.i64.wrap (p + z) = p + z := IntWalk.i64_in _ ⟨by omega, by omega⟩
          have hq : 0 ≤ p + z := by omega
          clear hfit HL HD h hrg
          go_wp2
          go_roundw
          case rel => exact ⟨k + 1, p + z, by omega, rfl, by go_num, hq, HN, hb.alloc hb.size _⟩
          case measure => simp [intOf]; omega
        · have HF : Hid (rightPB f t l = false) := hid (HR.out false (by rw [HL.out, HD.out]; exact ⟨fun h => absurd h.1 hfit, fun h => by cases h⟩))
          have hd := fit_not hfit
          obtain ⟨⟨g0, g1⟩, ⟨g2, g3⟩⟩ := hrg
          obtain ⟨p, z⟩ := s
          simp only at c0 c1 hd g0 g1 g2 g3
          clear hfit HL HD h
          have w1 : ¬ p < g → IntKind.i64.wrap (t - p) = t - p := fun h => IntWalk.i64_in _ ⟨by omega, by omega⟩
          rcases hd with d1 | ⟨d1, d2⟩ | ⟨d1, d2, d3⟩ | ⟨d1, d2, d3, d4⟩ | ⟨d1, d2, d3, d4, d5⟩ | ⟨d1, d2, d3, d4, d5, d6⟩
          all_goals
            first | (have w1' := w1 d1; clear w1) | clear w1
            go_wp2
            go_ret
            exact ⟨ret_bool HF.out.symm, hb.alloc hb.size _⟩
      · have HF : Hid (rightPB f t l = true) := hid (HR.out true (by rw [HL.out]; exact ⟨fun _ => rfl, fun _ => lay_end (by omega)⟩))
        obtain rfl : k = n := by omega
        go_wp2
        go_ret
        exact ⟨ret_bool HF.out.symm, hb⟩
  · have hf : rightPB f t l = false := rightPB_f fun h => he h.1
    rw [hf]
    clear h
    rcases end_not he with a | ⟨a, b⟩ | ⟨a, b, c⟩ | ⟨a, b, c, d⟩ | ⟨a, b, c, d, e⟩
    all_goals
      clear he
      go_enter Tryd.func40, Tryd.ntmps40
      go_wp2
      go_ret
      exact ⟨rfl, Below.refl _ _⟩
end Go.Proofs.YtclkooaepfedaaaDoor
