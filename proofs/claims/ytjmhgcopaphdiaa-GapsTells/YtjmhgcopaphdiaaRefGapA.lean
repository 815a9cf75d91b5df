/- joistref10.Best, Need, Same by their contracts. -/
import Derived.Test.YtjmhgcopaphdiaaGapF
import Derived.Deep.QuietTactic
import Derived.BigQuiet
namespace Go.Proofs.Ytjmhgcopaphdiaa
set_option maxRecDepth 100000
open Go.RowKit
set_option linter.unusedVariables false
set_option linter.unusedSimpArgs false
set_option maxRecDepth 100000

theorem rneed_any (n : Int) (w : World) :
    Calls Try.prog 11 #[.int .i64 n] w fun e w' => e = .returned (.tuple #[.int .i64 (ndN n), .int .i64 (ndE n)]) ∧ w = w' := by
  by_cases h : 1 ≤ n ∧ n ≤ 2048
  · obtain ⟨e1, e2⟩ := nd_t h
    rw [e1, e2]
    have a1 : ¬ n < 1 := by omega
    have a2 : ¬ 2048 < n := by omega
    have w1 : IntKind.i64.wrap (n + 7) = n + 7 := IntWalk.i64_in _ ⟨by omega, by omega⟩
    obtain ⟨q, hq⟩ : ∃ q, (n + 7) / 8 = q := ⟨_, rfl⟩
    have q0 : 0 ≤ q := by omega
    have q1 : q ≤ 300 := by omega
    have n0 : 0 ≤ n + 7 := by omega
    obtain ⟨r, hr⟩ : ∃ r, (2 + (n + 7) / 8 + 3) / 4 * 4 = r := ⟨_, rfl⟩
    rw [hr]
    have HR : Hid (∀ v, 2 + q ≤ v → v ≤ r → v % 4 = 0 → v = r) := hid (fun v h1 h2 h3 => by omega)
    have HS : Hid (2 + q ≤ r ∧ r % 4 = 0 ∧ r ≤ 400) := hid (by omega)
    clear h e1 e2
    go_enter Try.func11, Try.ntmps11
    go_wp2
    clear hr hq a1 a2 w1
    go_loopw [4] (fun s4 wr => ∃ v : Int, s4 = .int .i64 v ∧ 2 + q ≤ v ∧ v ≤ r ∧ w = wr) (fun s4 _ => (r - intOf s4).toNat)
    case atStart => exact ⟨2 + q, rfl, Int.le_refl _, HS.out.1, rfl⟩
    case round =>
      obtain ⟨v, rfl, v1, v2, rfl⟩ := hrel
      by_cases hv : v % 4 = 0
      · obtain rfl := HR.out v v1 v2 hv
        have u : (v % 4 != 0) = false := by simpa using hv
        have v3 : v ≤ 400 := HS.out.2.2
        clear HR HS hv
        go_wp2
        go_ret2
        exact ⟨rfl, rfl⟩
      · have u : (v % 4 != 0) = true := by simpa using hv
        have hlt : v + 1 ≤ r := by
          by_cases e : v = r
          · have := HS.out.2.1; rw [← e] at this; exact absurd this hv
          · omega
        have v3 : v ≤ 400 := by have := HS.out.2.2; omega
        have v0 : 0 ≤ v := by omega
        clear hv HR HS
        go_wp2
        go_roundw
        case rel => exact ⟨v + 1, rfl, by omega, hlt, trivial⟩
        case measure => simp [intOf]; omega
  · obtain ⟨e1, e2⟩ := nd_f h
    rw [e1, e2]
    go_enter Try.func11, Try.ntmps11
    by_cases h2 : n < 1
    · go_wp2
      go_ret2
      exact ⟨rfl, rfl⟩
    · have h3 : 2048 < n := by omega
      go_wp2
      go_ret2
      exact ⟨rfl, rfl⟩
def samP (l m : List Spn) : Bool := decide (l = m)
theorem samP_t {l m : List Spn} (h : l = m) : samP l m = true := decide_eq_true h
theorem samP_f {l m : List Spn} (h : ¬ l = m) : samP l m = false := decide_eq_false h
/-- Where two spans part. -/
theorem spn_part {s t : Spn} (h : ¬ s = t) : (s.pos == t.pos) = false ∨ (s.pos = t.pos ∧ (s.sz == t.sz) = false) := by
  by_cases h0 : s.pos = t.pos
  · have h1 : ¬ s.sz = t.sz := fun h1 => h (Spn.ext' h0 h1)
    exact .inr ⟨h0, by simpa using h1⟩
  · exact .inl (by simpa using h0)
set_option maxHeartbeats 1000000 in
theorem rsame_ps (ao : Option Addr) (n cap : Nat) (l : List Spn) (bo : Option Addr) (m c : Nat) (r : List Spn) (w : World) (h : Ps w ao n cap l) (g : Ps w bo m c r) (hn : n ≤ 9223372036854775807) (hm : m ≤ 9223372036854775807) :
    Calls Try.prog 16 #[.slice ao n cap, .slice bo m c] w fun e w' => e = .returned (.bool (samP l r)) ∧ Below w.heap.size w w' := by
  have hl := h.len
  have hr := g.len
  by_cases hnm : n = m
  · subst hnm
    go_enter Try.func16, Try.ntmps16
    go_wp2
    go_loopw [5] (fun t wr => ∃ k : Nat, k ≤ n ∧ t = .int .i64 k ∧ Hid (∀ i, i < k → pa l i = pa r i) ∧ Below w.heap.size w wr) (fun t _ => n - (intOf t).toNat)
    case atStart => exact ⟨0, Nat.zero_le _, rfl, hid (fun i hi => by omega), Below.refl _ _⟩
    case round =>
      obtain ⟨k, hk, rfl, HE, hb⟩ := hrel
      by_cases hlt : k < n
      · obtain ⟨b1, o1, rfl, _, _⟩ := h.here (by omega)
        obtain ⟨b2, o2, rfl, _, _⟩ := g.here (by omega)
        obtain ⟨c0, c1⟩ := h.at hb hlt
        obtain ⟨d0, d1⟩ := g.at hb hlt
        have hki : (k : Int) < (n : Int) := by omega
        have HT : Hid (pa l k = pa r k → ∀ i, i < k + 1 → pa l i = pa r i) := fun e i hi => by
          by_cases e2 : i = k
          · rw [e2]; exact e
          · exact HE.out i (by omega)
        have HF : Hid (¬ pa l k = pa r k → false = samP l r) := fun e => (samP_f (fun e2 => e (by rw [e2]))).symm
        generalize pa l k = s at *
        generalize pa r k = t at *
        clear h g HE
        by_cases hs : s = t
        · subst hs
          have HT' := hid (HT.out rfl)
          obtain ⟨p, z⟩ := s
          simp only at c0 c1 d0 d1
          clear HT HF
          go_wp2
          go_quiet (fail)
          go_wp2
          go_roundw
          case rel => exact ⟨k + 1, by omega, by go_num, HT', below_drewN hb _⟩
          case measure => simp [intOf]; omega
        · have HF' := hid (HF.out hs)
          have hd := spn_part hs
          obtain ⟨p, z⟩ := s
          obtain ⟨p1, z1⟩ := t
          simp only at c0 c1 d0 d1 hd
          clear HT HF hs
          rcases hd with h1 | ⟨rfl, h1⟩
          all_goals
            go_wp2
            go_quiet (fail)
            go_wp2
            go_ret
            exact ⟨ret_bool HF'.out, below_drewN hb _⟩
      · obtain rfl : k = n := by omega
        have HT : Hid (samP l r = true) := hid (samP_t (ext_pa (by omega) (fun i hi => HE.out i (by omega))))
        go_wp2
        go_ret
        exact ⟨ret_bool HT.out.symm, hb⟩
  · have hne : ((n : Int) != (m : Int)) = true := by simp; omega
    have hf : samP l r = false := samP_f (fun e => hnm (by rw [← hl, ← hr, e]))
    rw [hf]
    clear h g
    go_enter Try.func16, Try.ntmps16
    go_wp2
    go_ret
    exact ⟨rfl, Below.refl _ _⟩
/-- Where two spans stand to each other. -/
theorem btr_cases (s u : Spn) : (decide (s.sz < u.sz) = true ∧ BtrP s u) ∨ (decide (s.sz < u.sz) = false ∧ (s.sz == u.sz) = false ∧ ¬ BtrP s u) ∨ (decide (s.sz < u.sz) = false ∧ (s.sz == u.sz) = true ∧ decide (s.pos < u.pos) = true ∧ BtrP s u) ∨ (decide (s.sz < u.sz) = false ∧ (s.sz == u.sz) = true ∧ decide (s.pos < u.pos) = false ∧ ¬ BtrP s u) := by
  unfold BtrP
  by_cases a : s.sz < u.sz
  · exact .inl ⟨decide_eq_true a, .inl a⟩
  · by_cases b : s.sz = u.sz
    · by_cases c : s.pos < u.pos
      · exact .inr (.inr (.inl ⟨decide_eq_false a, by simpa using b, decide_eq_true c, .inr ⟨b, c⟩⟩))
      · exact .inr (.inr (.inr ⟨decide_eq_false a, by simpa using b, decide_eq_false c, by omega⟩))
    · exact .inr (.inl ⟨decide_eq_false a, by simpa using b, by omega⟩)
set_option maxHeartbeats 2000000 in
theorem rbest_ps (ao : Option Addr) (n cap : Nat) (l : List Spn) (z : Int) (w : World) (h : Ps w ao n cap l) (hn : n ≤ 9223372036854775807) :
    Calls Try.prog 20 #[.slice ao n cap, .int .i64 z] w fun e w' => e = .returned (.tuple #[.agg #[.int .i64 (bsN l z).pos, .int .i64 (bsN l z).sz], .bool (bsB l z)]) ∧ Below w.heap.size w w' := by
  have hl := h.len
  have HR := hid (bxP_new' w 0 0)
  have hbW : Below w.heap.size w (w.alloc (.cells #[.int .i64 0, .int .i64 0] 34)) := (Below.refl _ w).alloc (Nat.le_refl _) _
  go_enter Try.func20, Try.ntmps20
  go_wp2
  go_loopw [6, 7] (fun s6 s7 wr => ∃ (i : Nat) (j : Int), i ≤ n ∧ s6 = .int .i64 j ∧ s7 = .int .i64 i ∧ Hid ((bsK z l i = none ∧ j = -1) ∨ ∃ m : Nat, m < i ∧ j = m ∧ bsK z l i = some (pa l m)) ∧ Hid (BxP wr w.heap.size ⟨0, 0⟩) ∧ Below w.heap.size w wr) (fun _ s7 _ => n - (intOf s7).toNat)
  case atStart => exact ⟨0, -1, Nat.zero_le _, rfl, rfl, hid (.inl ⟨rfl, rfl⟩), HR, hbW⟩
  case round =>
    obtain ⟨i, j, hi, rfl, rfl, HJ, HR1, hb⟩ := hrel
    clear HR hbW
    by_cases hlt : i < n
    · obtain ⟨b, o, rfl, _, _⟩ := h.here (by omega)
      obtain ⟨c0, c1⟩ := h.at hb hlt
      have hki : (i : Int) < (n : Int) := by omega
      have Hst : Hid (∀ q, Hid (BxP (wr.drewN q) w.heap.size ⟨0, 0⟩)) := fun q => hid (HR1.out.kept (below_drewN (Below.refl _ _) _))
      by_cases hz : z ≤ (pa l i).sz
      · have hzn : ¬ (pa l i).sz < z := by omega
        rcases HJ.out with ⟨e, rfl⟩ | ⟨m, hm, rfl, e⟩
        · have HK := hid (bs_first hz e)
          have HN : Hid ((bsK z l (i + 1) = none ∧ (i : Int) = -1) ∨ ∃ m : Nat, m < i + 1 ∧ (i : Int) = m ∧ bsK z l (i + 1) = some (pa l m)) := hid (.inr ⟨i, by omega, rfl, HK.out⟩)
          generalize pa l i = s at *
          obtain ⟨p, y⟩ := s
          simp only at c0 c1 hzn
          clear h e HJ HK HR1 hz
          go_wp2
          go_quiet (fail)
          go_wp2
          go_roundw
          case rel => exact ⟨i + 1, i, by omega, rfl, by go_num, HN, Hst.out _, below_drewN hb _⟩
          case measure => simp [intOf]; omega
        · obtain ⟨d0, d1⟩ := h.at hb (show m < n by omega)
          have hmi : (m : Int) < (n : Int) := by omega
          have hm0 : ¬ ((m : Int) < 0) := by omega
          have hm0' : decide ((m : Int) < 0) = false := decide_eq_false hm0
          have H1 : Hid (BtrP (pa l i) (pa l m) → ((bsK z l (i + 1) = none ∧ (i : Int) = -1) ∨ ∃ m : Nat, m < i + 1 ∧ (i : Int) = m ∧ bsK z l (i + 1) = some (pa l m))) := fun hu => .inr ⟨i, by omega, rfl, bs_better hz e hu⟩
          have H2 : Hid (¬ BtrP (pa l i) (pa l m) → ((bsK z l (i + 1) = none ∧ (m : Int) = -1) ∨ ∃ m' : Nat, m' < i + 1 ∧ (m : Int) = m' ∧ bsK z l (i + 1) = some (pa l m'))) := fun hu => .inr ⟨m, by omega, rfl, bs_not hz e hu⟩
          have hcs := btr_cases (pa l i) (pa l m)
          generalize pa l i = s at *
          generalize pa l m = u at *
          obtain ⟨p, y⟩ := s
          obtain ⟨p1, y1⟩ := u
          simp only at c0 c1 d0 d1 hcs hzn
          clear h e HJ HR1 hz
          rcases hcs with ⟨g1, hB⟩ | ⟨g1, g2, hB⟩ | ⟨g1, g2, g3, hB⟩ | ⟨g1, g2, g3, hB⟩
          all_goals first
            | (have HN := hid (H1.out hB)
               clear H1 H2 hB
               go_wp2
               go_quiet (fail)
               go_wp2
               go_roundw
               case rel => exact ⟨i + 1, i, by omega, rfl, by go_num, HN, Hst.out _, below_drewN hb _⟩
               case measure => simp [intOf]; omega)
            | (have HN := hid (H2.out hB)
               clear H1 H2 hB
               go_wp2
               go_quiet (fail)
               go_wp2
               go_roundw
               case rel => exact ⟨i + 1, m, by omega, rfl, by go_num, HN, Hst.out _, below_drewN hb _⟩
               case measure => simp [intOf]; omega)
      · have HK := hid (bs_small hz)
        have hzl : (pa l i).sz < z := by omega
        have HN : Hid ((bsK z l (i + 1) = none ∧ j = -1) ∨ ∃ m : Nat, m < i + 1 ∧ j = m ∧ bsK z l (i + 1) = some (pa l m)) := hid (by
          rw [HK.out]
          rcases HJ.out with ⟨e1, e2⟩ | ⟨m, e1, e2, e3⟩
          · exact .inl ⟨e1, e2⟩
          · exact .inr ⟨m, by omega, e2, e3⟩)
        generalize pa l i = s at *
        obtain ⟨p, y⟩ := s
        simp only at c0 c1 hzl
        clear h HJ HK hz
        go_wp2
        go_roundw
        case rel => exact ⟨i + 1, j, by omega, rfl, by go_num, HN, HR1, hb⟩
        case measure => simp [intOf]; omega
    · obtain rfl : i = n := by omega
      have HO : Hid (bsO l z = bsK z l i) := hid (by rw [bsO, hl])
      obtain ⟨r0, r1, r2, r3⟩ := HR1.out.cells
      rcases HJ.out with ⟨e, rfl⟩ | ⟨m, hm, rfl, e⟩
      · have HE : Hid (bsN l z = ⟨0, 0⟩ ∧ bsB l z = false) := hid ⟨by simp [bsN, HO.out, e, Spn.z], by simp [bsB, HO.out, e]⟩
        obtain ⟨t0, t1, _, _⟩ := (HR1.out.set ⟨0, 0⟩).cells
        simp only at t0 t1 r0 r1
        clear h HJ HO e
        go_wp2
        refine bodyPost_ret (v := .tuple #[.agg #[.int .i64 0, .int .i64 0], .bool false]) (by simp [results, Try.results20, go_sem, t0, t1]) rfl ⟨by rw [HE.out.1, HE.out.2], ?_⟩
        exact (hb.setCell (by simp) _).setCell (by simp) _
      · have HE : Hid (bsN l z = pa l m ∧ bsB l z = true) := hid ⟨by simp [bsN, HO.out, e], by simp [bsB, HO.out, e]⟩
        obtain ⟨b, o, rfl, hbl, _⟩ := h.here (by omega)
        obtain ⟨d0, d1⟩ := h.at hb (show m < i by omega)
        have hmi : (m : Int) < (i : Int) := by omega
        have hm0 : ¬ ((m : Int) < 0) := by omega
        have hbne : b ≠ w.heap.size := by omega
        generalize pa l m = s at *
        obtain ⟨p, y⟩ := s
        obtain ⟨t0, t1, _, _⟩ := (HR1.out.set ⟨p, y⟩).cells
        simp only at t0 t1 r0 r1 d0 d1
        clear h HJ HO e
        go_wp2
        refine bodyPost_ret (v := .tuple #[.agg #[.int .i64 p, .int .i64 y], .bool true]) (by simp [results, Try.results20, go_sem, t0, t1]) rfl ⟨by rw [HE.out.1, HE.out.2], ?_⟩
        exact (hb.setCell (by simp) _).setCell (by simp) _
end Go.Proofs.Ytjmhgcopaphdiaa
