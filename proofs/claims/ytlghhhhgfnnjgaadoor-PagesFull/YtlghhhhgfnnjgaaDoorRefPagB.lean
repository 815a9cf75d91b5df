/- joistref13.taken, Runs, Best by their contracts. -/
import Derived.Test.YtlghhhhgfnnjgaaDoorRefPagA
import Derived.BigQuiet
namespace Go.Proofs.YtlghhhhgfnnjgaaDoor
set_option maxRecDepth 100000
open Go.RowKit
set_option linter.unusedVariables false
set_option linter.unusedSimpArgs false
set_option maxRecDepth 100000

theorem ps_span (w : World) (k : Nat) (s : Spn) (hk : w.heap.size = k) (hs : RgP s) : Ps (w.alloc (.cells #[.int .i64 s.pos, .int .i64 s.sz] 58)) (some ⟨k, 0, none⟩) 1 1 [s] := by
  subst hk
  refine ⟨rfl, Nat.le_refl _, (by intro h; cases h), fun _ => ⟨w.heap.size, 0, rfl, by simp, fun i hi => ?_⟩, fun x hx => by rw [List.mem_singleton.1 hx]; exact hs⟩
  obtain rfl : i = 0 := by omega
  exact (bxP_new w s).p2

theorem rtaken_ps (ao : Option Addr) (n cap : Nat) (l : List Spn) (x : Int) (w : World) (h : Ps w ao n cap l) (hn : n ≤ 9223372036854775807) :
    Calls Tryd.prog 36 #[.slice ao n cap, .int .i64 x] w fun e w' => e = .returned (.bool (ocB l x)) ∧ w = w' := by
  have hl := h.len
  go_enter Tryd.func36, Tryd.ntmps36
  go_wp2
  go_loopw [5] (fun s5 wr => ∃ k : Nat, k ≤ n ∧ s5 = .int .i64 k ∧ Hid (∀ i, i < k → (pa l i).pos ≠ x) ∧ w = wr) (fun s5 _ => n - (intOf s5).toNat)
  case atStart => exact ⟨0, Nat.zero_le _, rfl, hid (fun i h => absurd h (by omega)), rfl⟩
  case round =>
    obtain ⟨k, hk, rfl, HN, rfl⟩ := hrel
    by_cases hlt : k < n
    · obtain ⟨b, o, rfl, _, _⟩ := h.here (by omega)
      obtain ⟨c0, c1⟩ := h.at (Below.refl _ _) hlt
      have hki : (k : Int) < (n : Int) := by omega
      by_cases he : (pa l k).pos = x
      · have HT : Hid (ocB l x = true) := hid (ocB_t ⟨pa l k, pa_mem (by omega), he⟩)
        generalize pa l k = s at *
        obtain ⟨p, z⟩ := s
        simp only at c0 c1 he
        have hq : (p == x) = true := by simpa using he
        clear h HN he
        go_wp2
        go_ret
        exact ⟨by rw [HT.out]; rfl, rfl⟩
      · have HM : Hid (∀ i, i < k + 1 → (pa l i).pos ≠ x) := hid (fun i hi => by
          by_cases c : i < k
          · exact HN.out i c
          · obtain rfl : i = k := by omega
            exact he)
        generalize pa l k = s at *
        obtain ⟨p, z⟩ := s
        simp only at c0 c1 he
        have hq : (p == x) = false := by simpa using he
        clear h HN
        go_wp2
        go_roundw
        case rel => exact ⟨k + 1, by omega, by go_num, HM, trivial⟩
        case measure => simp [intOf]; omega
    · obtain rfl : k = n := by omega
      have HF : Hid (ocB l x = false) := hid (ocB_f fun o ho => by
        obtain ⟨i, hi, rfl⟩ := mem_pa ho
        exact HN.out i (by omega))
      clear h HN
      go_wp2
      go_ret
      exact ⟨by rw [HF.out]; rfl, rfl⟩

theorem Sl.kat {w wr : World} {b off n cap : Nat} {zs : List Int} (h : Sl .i64 w (some ⟨b, off, none⟩) n cap zs) (hb : Below w.heap.size w wr) {i : Nat} (hi : i < n) : wr.cell? ⟨b, off + i, none⟩ = some (.int .i64 (ka zs i)) := by
  obtain ⟨b', o', e, _, hc⟩ := (h.below hb).here (by omega)
  simp only [Option.some.injEq, Addr.mk.injEq, and_true] at e
  obtain ⟨rfl, rfl⟩ := e
  exact hc i hi

set_option maxHeartbeats 1000000 in
theorem rruns_sl (ao : Option Addr) (n cap : Nat) (ks : List Int) (w : World) (h : Sl .i64 w ao n cap ks) (hn : n ≤ 1048576) :
    Calls Tryd.prog 22 #[.slice ao n cap] w fun e w' => ∃ bo m c, e = .returned (.slice bo m c) ∧ OwP w.heap.size w' bo m c (rnL ks) ∧ Below w.heap.size w w' := by
  have hl := h.len
  go_enter Tryd.func22, Tryd.ntmps22
  go_wp2
  go_loopw [3, 4] (fun s3 s4 wr => ∃ (k : Nat) (bo : Option Addr) (m c : Nat), k ≤ n + 1 ∧ s3 = .slice bo m c ∧ s4 = .int .i64 k ∧ Hid (k = 0 ∨ ka ks (k - 1) ≠ -1) ∧ m ≤ k ∧ Hid (OwP w.heap.size wr bo m c (rnK ks k)) ∧ Below w.heap.size w wr) (fun _ s4 _ => n + 1 - (intOf s4).toNat)
  case atStart => exact ⟨0, none, 0, 0, Nat.zero_le _, rfl, rfl, hid (Or.inl rfl), Nat.le_refl _, hid (owP_nil _ _), Below.refl _ _⟩
  case round =>
    obtain ⟨k, bo, m, c, hk, rfl, rfl, HB, hm, HO, hb⟩ := hrel
    by_cases hlt : k < n
    · obtain ⟨b, o, rfl, _, _⟩ := h.here (by omega)
      have c0 := h.kat hb hlt
      have hki : (k : Int) < (n : Int) := by omega
      by_cases hf : ka ks k = -1
      · have hst : StR ks k := ⟨hf, HB.out⟩
        have HL := hid (rl_le (ks := ks) (i := k) (by omega))
        have HF := hid hf
        have HOV := hid (rn_over hst)
        rw [hf] at c0
        clear hf HB
        go_wp2
        clear c0
        go_loopw [5] (fun s5 wq => ∃ j : Nat, k + j ≤ n ∧ s5 = .int .i64 j ∧ Hid (∀ i, i < j → ka ks (k + i) = -1) ∧ wr = wq) (fun s5 _ => n - (intOf s5).toNat)
        case atStart => exact ⟨0, by omega, rfl, hid (fun i h => absurd h (by omega)), rfl⟩
        case round =>
          obtain ⟨j, hj, rfl, HJ, rfl⟩ := hrel
          have x1 : IntKind.i64.wrap ((k : Int) + (j : Int)) = ((k + j : Nat) : Int) := by rw [IntWalk.i64_in _ ⟨by omega, by omega⟩]; omega
          by_cases hjn : k + j < n
          · have d0 := h.kat hb hjn
            have hji : ((k + j : Nat) : Int) < (n : Int) := by omega
            by_cases hf2 : ka ks (k + j) = -1
            · have HJ2 : Hid (∀ i, i < j + 1 → ka ks (k + i) = -1) := hid (fun i hi => by
                by_cases c : i < j
                · exact HJ.out i c
                · obtain rfl : i = j := by omega
                  exact hf2)
              rw [hf2] at d0
              clear hf2 HJ h
              go_wp2
              go_roundw
              case rel => exact ⟨j + 1, by omega, by go_num, HJ2, trivial⟩
              case measure => simp [intOf]; omega
            · have hend := hf2
              have hf3 : (ka ks (k + j) == -1) = false := by simpa using hf2
              generalize hv : ka ks (k + j) = v at d0 hf3
              clear hv hf2
              have HE : Hid (rlN ks k = j) := hid (rl_eq HJ.out hend)
              have HNX : Hid (rnK ks (k + j + 1) = rnK ks k ++ [⟨k, j⟩]) := hid (by have := HOV.out; rw [HE.out] at this; exact this)
              have HBX : Hid (k + j + 1 = 0 ∨ ka ks (k + j + 1 - 1) ≠ -1) := hid (Or.inr (by rw [show k + j + 1 - 1 = k + j by omega]; exact hend))
              have hrg : RgP ⟨k, j⟩ := ⟨by unfold Rg; show _ ≤ (k : Int) ∧ (k : Int) ≤ _; omega, by unfold Rg; show _ ≤ (j : Int) ∧ (j : Int) ≤ _; omega⟩
              have HP := hid (ps_span wr wr.heap.size ⟨k, j⟩ rfl hrg)
              have hoA := HO.out.below ((Below.refl _ wr).alloc (Nat.le_refl _) (.cells #[.int .i64 (k : Int), .int .i64 (j : Int)] 58))
              have hbA := hb.alloc hb.size (.cells #[.int .i64 (k : Int), .int .i64 (j : Int)] 58)
              have hbA' := hbA.size
              have h16 : (m + 1) * 16 ≤ 140737488355328 := by omega
              clear HO HOV HF HL HJ HE hend h
              go_wp2_with (at_builtin; refine append_ps rfl (.tmp 34) (.tmp 38) rfl w.heap.size _ m _ rfl hoA.row hoA.rg (some ⟨wr.heap.size, 0, none⟩) 1 1 [⟨k, j⟩] rfl HP.out h16 hbA' ?_; intro bo2 c2 w2 ho2 hg2; have HO2 := hid ho2; have hb2 : Below w.heap.size w w2 := hbA.grown hg2 hbA' (fun j hj => (hoA.row.lt j hj).1); clear ho2 hg2)
              go_roundw
              case rel => exact ⟨k + j + 1, bo2, m + 1, c2, by omega, rfl, by go_num, HBX, by omega, by rw [HNX.out]; exact HO2, hb2⟩
              case measure => simp [intOf]; omega
          · have hjn2 : k + j = n := by omega
            have hend : ka ks (k + j) ≠ -1 := by rw [ka_past (by omega)]; omega
            have hji : ¬ (((k + j : Nat) : Int) < (n : Int)) := by omega
            have HJN := hid hjn2
            clear hjn2
            have HE : Hid (rlN ks k = j) := hid (rl_eq HJ.out hend)
            have HNX : Hid (rnK ks (k + j + 1) = rnK ks k ++ [⟨k, j⟩]) := hid (by have := HOV.out; rw [HE.out] at this; exact this)
            have HBX : Hid (k + j + 1 = 0 ∨ ka ks (k + j + 1 - 1) ≠ -1) := hid (Or.inr (by rw [show k + j + 1 - 1 = k + j by omega]; exact hend))
            have hrg : RgP ⟨k, j⟩ := ⟨by unfold Rg; show _ ≤ (k : Int) ∧ (k : Int) ≤ _; omega, by unfold Rg; show _ ≤ (j : Int) ∧ (j : Int) ≤ _; omega⟩
            have HP := hid (ps_span wr wr.heap.size ⟨k, j⟩ rfl hrg)
            have hoA := HO.out.below ((Below.refl _ wr).alloc (Nat.le_refl _) (.cells #[.int .i64 (k : Int), .int .i64 (j : Int)] 58))
            have hbA := hb.alloc hb.size (.cells #[.int .i64 (k : Int), .int .i64 (j : Int)] 58)
            have hbA' := hbA.size
            have h16 : (m + 1) * 16 ≤ 140737488355328 := by omega
            clear HO HOV HF HL HJ HE hend h
            go_wp2_with (at_builtin; refine append_ps rfl (.tmp 34) (.tmp 38) rfl w.heap.size _ m _ rfl hoA.row hoA.rg (some ⟨wr.heap.size, 0, none⟩) 1 1 [⟨k, j⟩] rfl HP.out h16 hbA' ?_; intro bo2 c2 w2 ho2 hg2; have HO2 := hid ho2; have hb2 : Below w.heap.size w w2 := hbA.grown hg2 hbA' (fun j hj => (hoA.row.lt j hj).1); clear ho2 hg2)
            go_roundw
            case rel => exact ⟨k + j + 1, bo2, m + 1, c2, by omega, rfl, by go_num, HBX, by omega, by rw [HNX.out]; exact HO2, hb2⟩
            case measure => simp [intOf]; omega
      · have HNX : Hid (rnK ks (k + 1) = rnK ks k) := hid (rn_skip fun hs => hf hs.1)
        have HBX : Hid (k + 1 = 0 ∨ ka ks (k + 1 - 1) ≠ -1) := hid (Or.inr (by simpa using hf))
        have hf3 : (ka ks k != -1) = true := by simpa using hf
        generalize ka ks k = v at c0 hf3 hf
        clear hf h HB
        go_wp2
        go_roundw
        case rel => exact ⟨k + 1, bo, m, c, by omega, rfl, by go_num, HBX, by omega, by rw [HNX.out]; exact HO, hb⟩
        case measure => simp [intOf]; omega
    · have HE : Hid (rnK ks k = rnL ks) := hid (rn_past (by omega))
      have hki : ¬ ((k : Int) < (n : Int)) := by omega
      clear h HB
      go_wp2
      go_ret
      exact ⟨bo, m, c, rfl, by rw [← HE.out]; exact HO.out, hb⟩
end Go.Proofs.YtlghhhhgfnnjgaaDoor
