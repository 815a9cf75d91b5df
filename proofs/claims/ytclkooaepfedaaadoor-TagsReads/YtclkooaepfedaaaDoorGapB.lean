/- gaps.Right by its contract. -/
import Derived.Test.YtclkooaepfedaaaDoorGapA
namespace Go.Proofs.YtclkooaepfedaaaDoor
set_option maxRecDepth 100000
open Go.RowKit
set_option linter.unusedVariables false
set_option linter.unusedSimpArgs false
set_option maxRecDepth 100000

/-- Where the ends are wrong first. -/
theorem end_not {f t : Int} (h : ¬ EndP f t) : f < 0 ∨ (¬ f < 0 ∧ t < f) ∨ (¬ f < 0 ∧ ¬ t < f ∧ 2048 < t) ∨ (¬ f < 0 ∧ ¬ t < f ∧ ¬ 2048 < t ∧ (f % 4 != 0) = true) ∨ (¬ f < 0 ∧ ¬ t < f ∧ ¬ 2048 < t ∧ (f % 4 != 0) = false ∧ (t % 4 != 0) = true) := by
  unfold EndP at h
  by_cases a : f < 0
  · exact .inl a
  · by_cases b : t < f
    · exact .inr (.inl ⟨a, b⟩)
    · by_cases c : 2048 < t
      · exact .inr (.inr (.inl ⟨a, b, c⟩))
      · by_cases d : f % 4 = 0
        · exact .inr (.inr (.inr (.inr ⟨a, b, c, by simpa using d, by simp; omega⟩)))
        · exact .inr (.inr (.inr (.inl ⟨a, b, c, by simpa using d⟩)))
theorem EndP.all {f t : Int} (h : EndP f t) : ¬ f < 0 ∧ ¬ t < f ∧ ¬ 2048 < t ∧ (f % 4 != 0) = false ∧ (t % 4 != 0) = false := by
  obtain ⟨a, b, c, d, e⟩ := h
  exact ⟨by omega, by omega, by omega, by simpa using d, by simpa using e⟩
theorem rightP_ps (f t : Int) (ao : Option Addr) (n cap : Nat) (l : List Spn) (w : World) (h : Ps w ao n cap l) (hn : n ≤ 9223372036854775807) :
    Calls Tryd.prog 35 #[.int .i64 f, .int .i64 t, .slice ao n cap] w fun e w' => e = .returned (.bool (rightPB f t l)) ∧ Below w.heap.size w w' := by
  have hl := h.len
  by_cases he : EndP f t
  · obtain ⟨u0, u1, u2, u3, u4⟩ := he.all
    have HR : Hid (∀ b, (LayP f t l ↔ b = true) → rightPB f t l = b) := fun b hb => by
      cases b with
      | true => exact rightPB_t ⟨he, hb.2 rfl⟩
      | false => exact rightPB_f fun h => by have := hb.1 h.2; cases this
    have ht : 0 ≤ t := by unfold EndP at he; omega
    have ht2 : t ≤ 2048 := by omega
    have hf0 : 0 ≤ f := by omega
    clear he
    go_enter Tryd.func35, Tryd.ntmps35
    go_wp2
    clear u0 u1 u2 u3 u4
    go_loopw [0, 32] (fun s0 s32 wr => ∃ (k : Nat) (g : Int), k ≤ n ∧ s0 = .int .i64 g ∧ s32 = .int .i64 k ∧ 0 ≤ g ∧ Hid (LayP f t l ↔ LayP g t (l.drop k)) ∧ Below w.heap.size w wr) (fun _ s32 _ => n - (intOf s32).toNat)
    case atStart => exact ⟨0, f, Nat.zero_le _, rfl, rfl, hf0, hid Iff.rfl, Below.refl _ _⟩
    case round =>
      obtain ⟨k, g, hk, rfl, rfl, hg, HL, hb⟩ := hrel
      by_cases hlt : k < n
      · obtain ⟨b, o, rfl, _, _⟩ := h.here (by omega)
        obtain ⟨c0, c1⟩ := h.at hb hlt
        have hrg := h.rgs hlt
        have hki : (k : Int) < (n : Int) := by omega
        have HD := hid (lay_drop (f := g) (t := t) (l := l) (k := k) (by omega))
        have hx := bxP_new wr (pa l k)
        generalize pa l k = s at *
        have cF := fun w' => gfits_any g t s w' hg ht ht2 hrg
        by_cases hfit : FitP g t s
        · rw [fitPB_t hfit] at cF
          have HN : Hid (LayP f t l ↔ LayP s.fin t (l.drop (k + 1))) := hid (by rw [HL.out, HD.out]; exact ⟨fun h => h.2, fun h => ⟨hfit, h⟩⟩)
          have hs : Rg (s.pos + s.sz) ∧ 0 ≤ s.fin := by
            obtain ⟨q1, q2, q3, q4, q5⟩ := hfit
            unfold Rg Spn.fin
            omega
          have cE := fun w' => end_any s w' hs.1
          have hfin := hs.2
          obtain ⟨p, z⟩ := s
          simp only [Spn.obj] at c0 c1 hx cF cE
          generalize (⟨p, z⟩ : Spn).fin = q at *
          clear hfit HL HD h hrg hs
          go_wp2_with (first
            | (go_at_call 54; with_reducible refine (cF _).mono ?_; rintro e w1 ⟨rfl, hb1⟩; obtain ⟨d0, d1, _, _⟩ := (hx.kept hb1).cells)
            | (go_at_call 55; with_reducible refine (cE _).mono ?_; rintro e w2 ⟨rfl, hb2⟩))
          go_roundw
          case rel => exact ⟨k + 1, q, by omega, rfl, by go_num, hfin, HN, next (next (hb.alloc hb.size _) hb1) hb2⟩
          case measure => simp [intOf]; omega
        · rw [fitPB_f hfit] at cF
          have HF : Hid (rightPB f t l = false) := hid (HR.out false (by rw [HL.out, HD.out]; exact ⟨fun h => absurd h.1 hfit, fun h => by cases h⟩))
          obtain ⟨p, z⟩ := s
          simp only [Spn.obj] at c0 c1 hx cF
          clear hfit HL HD h hrg
          go_wp2_with (first
            | (go_at_call 54; with_reducible refine (cF _).mono ?_; rintro e w1 ⟨rfl, hb1⟩))
          go_ret
          exact ⟨ret_bool HF.out.symm, next (hb.alloc hb.size _) hb1⟩
      · have HF : Hid (rightPB f t l = true) := hid (HR.out true (by rw [HL.out]; exact ⟨fun _ => rfl, fun _ => lay_end (by omega)⟩))
        obtain rfl : k = n := by omega
        go_wp2
        go_ret
        exact ⟨ret_bool HF.out.symm, hb⟩
  · have hf : rightPB f t l = false := rightPB_f fun h => he h.1
    rw [hf]
    clear h
    rcases end_not he with a | ⟨a, b⟩ | ⟨a, b, c⟩ | ⟨a, b, c, d⟩ | ⟨a, b, c, d, e⟩
    all_goals
      clear he
      go_enter Tryd.func35, Tryd.ntmps35
      go_wp2
      go_ret
      exact ⟨rfl, Below.refl _ _⟩
end Go.Proofs.YtclkooaepfedaaaDoor
