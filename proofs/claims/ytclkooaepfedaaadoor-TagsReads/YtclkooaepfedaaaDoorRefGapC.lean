/- joistref10.Gaps, Behind by their contracts. -/
import Derived.Test.YtclkooaepfedaaaDoorRefGapB
namespace Go.Proofs.YtclkooaepfedaaaDoor
set_option maxRecDepth 100000
open Go.RowKit
set_option linter.unusedVariables false
set_option linter.unusedSimpArgs false
set_option maxRecDepth 100000

set_option maxHeartbeats 1000000 in
theorem rgapsP_ps (f t : Int) (ao : Option Addr) (n cap : Nat) (l : List Spn) (w : World) (h : Ps w ao n cap l) (hn : n ≤ 9223372036854775806) :
    Calls Tryd.prog 53 #[.int .i64 f, .int .i64 t, .slice ao n cap] w fun e w' => ∃ bo m c, e = .returned (.tuple #[.slice bo m c, .int .i64 (gpE f t l)]) ∧ OwP w.heap.size w' bo m c (gpL f t l) ∧ Below w.heap.size w w' := by
  have hl := h.len
  have cR := rrightP_ps f t ao n cap l w h (by omega)
  by_cases hr : RightP f t l
  · obtain ⟨e1, e2⟩ := gp_t hr
    rw [e1, e2]
    rw [rightPB_t hr] at cR
    have hn512 : n ≤ 512 := by have := hr.len; omega
    have hlay := hr.2
    obtain ⟨a0, a1, a2, _, _⟩ := hr.1
    clear e1 e2
    go_enter Tryd.func53, Tryd.ntmps53
    go_wp2_with (first
      | (go_at_call 40; with_reducible refine cR.mono ?_; rintro e w1 ⟨rfl, hb1⟩))
    go_loopw [9, 10, 11] (fun s9 s10 s11 wr => ∃ (i : Nat) (e : Int) (g : List Spn) (bo : Option Addr) (m c : Nat), s9 = .slice bo m c ∧ s10 = .int .i64 e ∧ s11 = .int .i64 i ∧ i ≤ n + 1 ∧ m ≤ i ∧ Hid ((i ≤ n ∧ g ++ gapsL e t (l.drop i) = gapsL f t l ∧ LayP e t (l.drop i) ∧ 0 ≤ e ∧ e ≤ t) ∨ (i = n + 1 ∧ g = gapsL f t l)) ∧ Hid (OwP w.heap.size wr bo m c g) ∧ Below w.heap.size w wr) (fun _ _ s11 _ => n + 1 - (intOf s11).toNat)
    case atStart => exact ⟨0, f, [], none, 0, 0, rfl, rfl, rfl, by omega, Nat.le_refl _, hid (.inl ⟨Nat.zero_le _, rfl, hlay, a0, a1⟩), hid (owP_nil _ _), hb1⟩
    case round =>
      obtain ⟨i, e, g, bo, m, c, rfl, rfl, rfl, hi, hm, HG, HO, hb⟩ := hrel
      clear hb1 cR
      by_cases hin : i = n + 1
      · have HF : Hid (g = gapsL f t l) := hid (by
          rcases HG.out with ⟨h1, _⟩ | ⟨_, h2⟩
          · omega
          · exact h2)
        have u : ¬ ((i : Int) ≤ (n : Int)) := by omega
        have u' : ¬ (i ≤ n) := by omega
        clear h HG hin
        go_wp2
        go_ret2
        exact ⟨bo, m, c, rfl, by rw [← HF.out]; exact HO.out, hb⟩
      · have hq : g ++ gapsL e t (l.drop i) = gapsL f t l ∧ LayP e t (l.drop i) ∧ 0 ≤ e ∧ e ≤ t := by
          rcases HG.out with ⟨_, h1⟩ | ⟨h1, _⟩
          · exact h1
          · exact absurd h1 hin
        obtain ⟨q1, q2, q3, q4⟩ := hq
        have Q1 := hid q1
        have Q2 := hid q2
        have u : (i : Int) ≤ (n : Int) := by omega
        have u' : i ≤ n := by omega
        have hal : Below w.heap.size w wr → ∀ (o : Obj), Below w.heap.size w (wr.alloc o) := fun h o => h.alloc h.size o
        clear HG q1 q2
        by_cases hlt : i < n
        · obtain ⟨b, o, rfl, hbl, _⟩ := h.here (by omega)
          obtain ⟨c0, c1⟩ := h.at hb hlt
          have hki : (i : Int) < (n : Int) := by omega
          have hfit := ((lay_drop (f := e) (t := t) (l := l) (k := i) (by omega)).1 Q2.out).1
          have Q2' := hid ((lay_drop (f := e) (t := t) (l := l) (k := i) (by omega)).1 Q2.out).2
          have Q1' : Hid ((g ++ gap1 e (pa l i).pos) ++ gapsL (pa l i).fin t (l.drop (i + 1)) = gapsL f t l) := hid (by rw [List.append_assoc, ← gaps_drop (by omega)]; exact Q1.out)
          have HA := hid (fun w' (hb' : Below w.heap.size w w') => h.at hb' hlt)
          generalize pa l i = s at *
          obtain ⟨p, z⟩ := s
          obtain ⟨k1, k2, k3, k4, k5⟩ := hfit
          simp only at c0 c1 k1 k2 k3 k4 k5 Q1'
          have w2 : IntKind.i64.wrap (p + z) = p + z := IntWalk.i64_in _ ⟨by omega, by omega⟩
          have r0 : 0 ≤ p + z := by omega
          have r1 : p + z ≤ t := by omega
          clear h Q1 Q2 k2 k5
          by_cases hg : e < p
          · rw [gap1_t hg] at Q1'
            have w3 : IntKind.i64.wrap (p - e) = p - e := IntWalk.i64_in _ ⟨by omega, by omega⟩
            have hrgp : RgP ⟨e, p - e⟩ := ⟨by unfold Rg; simp only; omega, by unfold Rg; simp only; omega⟩
            have HP := hid (ps_one wr wr.heap.size ⟨e, p - e⟩ rfl hrgp)
            have hoA := HO.out.below ((Below.refl _ wr).alloc (Nat.le_refl _) (.cells #[.int .i64 e, .int .i64 (p - e)] 64))
            have hbA := hal hb (.cells #[.int .i64 e, .int .i64 (p - e)] 64)
            have hbA' := hbA.size
            have h16 : (m + 1) * 16 ≤ 140737488355328 := by omega
            clear HO hal
            go_wp2_with (first
              | (at_builtin; refine append_ps rfl (.tmp 39) (.tmp 45) rfl w.heap.size _ m g rfl hoA.row hoA.rg (some ⟨wr.heap.size, 0, none⟩) 1 1 [⟨e, p - e⟩] rfl HP.out h16 hbA' ?_; intro bo2 c2 w2 ho2 hg2; have HO2 := hid ho2; have hb2 : Below w.heap.size w w2 := hbA.grown hg2 hbA' (fun j hj => (hoA.row.lt j hj).1); obtain ⟨d0, d1⟩ := HA.out w2 hb2; simp only at d0 d1; clear ho2 hg2))
            go_quiet (fail)
            go_wp2
            go_roundw
            case rel => exact ⟨i + 1, p + z, _, bo2, m + 1, c2, rfl, rfl, by go_num, by omega, by omega, hid (.inl ⟨by omega, Q1'.out, Q2'.out, r0, r1⟩), hid (HO2.out.below (below_drewN (Below.refl _ _) _)), below_drewN hb2 _⟩
            case measure => simp [intOf]; omega
          · rw [gap1_f hg, List.append_nil] at Q1'
            clear hal HA
            go_wp2
            go_quiet (fail)
            go_wp2
            go_roundw
            case rel => exact ⟨i + 1, p + z, g, bo, m, c, rfl, rfl, by go_num, by omega, by omega, hid (.inl ⟨by omega, Q1'.out, Q2'.out, r0, r1⟩), hid (HO.out.below (below_drewN (Below.refl _ _) _)), below_drewN hb _⟩
            case measure => simp [intOf]; omega
        · obtain rfl : i = n := by omega
          have Q1' : Hid (g ++ gap1 e t = gapsL f t l) := hid (by rw [← gaps_end (l := l) (k := i) (by omega)]; exact Q1.out)
          have hki : ¬ ((i : Int) < (i : Int)) := by omega
          clear h Q1 Q2
          by_cases hg : e < t
          · rw [gap1_t hg] at Q1'
            have w3 : IntKind.i64.wrap (t - e) = t - e := IntWalk.i64_in _ ⟨by omega, by omega⟩
            have hrgp : RgP ⟨e, t - e⟩ := ⟨by unfold Rg; simp only; omega, by unfold Rg; simp only; omega⟩
            have HP := hid (ps_one wr wr.heap.size ⟨e, t - e⟩ rfl hrgp)
            have hoA := HO.out.below ((Below.refl _ wr).alloc (Nat.le_refl _) (.cells #[.int .i64 e, .int .i64 (t - e)] 64))
            have hbA := hal hb (.cells #[.int .i64 e, .int .i64 (t - e)] 64)
            have hbA' := hbA.size
            have h16 : (m + 1) * 16 ≤ 140737488355328 := by omega
            clear HO hal
            go_wp2_with (first
              | (at_builtin; refine append_ps rfl (.tmp 39) (.tmp 45) rfl w.heap.size _ m g rfl hoA.row hoA.rg (some ⟨wr.heap.size, 0, none⟩) 1 1 [⟨e, t - e⟩] rfl HP.out h16 hbA' ?_; intro bo2 c2 w2 ho2 hg2; have HO2 := hid ho2; have hb2 : Below w.heap.size w w2 := hbA.grown hg2 hbA' (fun j hj => (hoA.row.lt j hj).1); clear ho2 hg2))
            go_roundw
            case rel => exact ⟨i + 1, e, _, bo2, m + 1, c2, rfl, rfl, by go_num, by omega, by omega, hid (.inr ⟨rfl, Q1'.out⟩), HO2, hb2⟩
            case measure => simp [intOf]
          · rw [gap1_f hg, List.append_nil] at Q1'
            clear hal
            go_wp2
            go_roundw
            case rel => exact ⟨i + 1, e, g, bo, m, c, rfl, rfl, by go_num, by omega, by omega, hid (.inr ⟨rfl, Q1'.out⟩), HO, hb⟩
            case measure => simp [intOf]
  · obtain ⟨e1, e2⟩ := gp_f hr
    rw [e1, e2]
    rw [rightPB_f hr] at cR
    clear h hr
    go_enter Tryd.func53, Tryd.ntmps53
    go_wp2_with (first
      | (go_at_call 40; with_reducible refine cR.mono ?_; rintro e w1 ⟨rfl, hb1⟩))
    go_ret2
    exact ⟨none, 0, 0, rfl, owP_nil _ _, hb1⟩
theorem fb_drop {g : List Spn} {e : Int} {i : Nat} (h : i < g.length) : fbN (g.drop i) e = if (pa g i).pos = e then (pa g i).sz else fbN (g.drop (i + 1)) e := by
  rw [drop_pa h]; rfl
theorem fb_end {g : List Spn} {e : Int} {i : Nat} (h : ¬ i < g.length) : fbN (g.drop i) e = 0 := by
  rw [List.drop_of_length_le (by omega)]; rfl
end Go.Proofs.YtclkooaepfedaaaDoor
