/- joistref08.right, Right, New, Find, Chain and Next by their contracts. -/
import Derived.Test.YtijfiaggneeibaaRefTabA
import Derived.Test.YtijfiaggneeibaaTabC
namespace Go.Proofs.Ytijfiaggneeibaa
set_option maxRecDepth 100000
open Go.RowKit
set_option linter.unusedVariables false
set_option linter.unusedSimpArgs false
set_option maxRecDepth 100000

theorem beq_false_nat (m : Nat) : (((m + 1 : Nat) : Int) == 0) = false := by simp; omega
theorem zero_lt_nat (m : Nat) : (0 : Int) < ((m + 1 : Nat) : Int) := by omega
theorem rmay_any (s : Slt) (w : World) :
    Calls Try.prog 38 #[.agg #[.int .i64 s.gen, .bool s.live, .bool s.two, .int .i64 s.pos, .int .i64 s.len]] w fun e w' => e = .returned (.bool (mayB s)) ∧ Below w.heap.size w w' := by
  obtain ⟨g, l, t, p, n⟩ := s
  cases l <;> cases t
  all_goals
    go_enter Try.func38, Try.ntmps38
    go_wp2
    all_goals (go_ret; refine ⟨ret_bool ?_, (Below.refl _ w).alloc (Nat.le_refl _) _⟩)
    all_goals (rw [Bool.eq_iff_iff]; simp only [mayB, MayS, decide_eq_true_eq, beq_iff_eq, Bool.false_eq_true, false_iff, true_and, false_and, or_false, false_or, and_false, Bool.true_eq_false]; try omega)
theorem rnew_any (n : Int) (w : World) :
    Calls Try.prog 11 #[.int .i64 n] w fun e w' => ∃ ao m c, e = .returned (.tuple #[.slice ao m c, .int .i64 (nwE n)]) ∧ OwT w.heap.size w' ao m c (nwL n) ∧ Below w.heap.size w w' := by
  obtain ⟨i0, hi, hz0, hz1, hz2⟩ := info_parts Try.info39
  by_cases h : SizT n
  · obtain ⟨h1, h2, h3⟩ := h
    obtain ⟨m, rfl⟩ := Int.eq_ofNat_of_zero_le (show 0 ≤ n by omega)
    obtain ⟨e1, e2⟩ := nw_t (n := (m : Int)) ⟨h1, h2, h3⟩
    rw [e1, e2, Int.toNat_natCast]
    have k1 : ¬ ((m : Int) < 2) := by omega
    have k2 : ¬ (32 < (m : Int)) := by omega
    have k3 : ((m : Int) % 2 == 1) = false := by simp; omega
    clear e1 e2 h1 h2 h3
    have hm : m ≤ 32 := by omega
    go_enter Try.func11, Try.ntmps11
    go_wp2_with (first
      | (at_make; refine wpList_make_full _ rfl _ _ 22 rfl w.heap.size 39 i0 (.agg #[.int .i64 0, .bool false, .bool false, .int .i64 0, .int .i64 0]) 5 Try.underlying22 hi hz0 hz1 .i64 .i64 _ _ m rfl rfl rfl rfl ?b2 ?b3 ?b4 ?_))
    case b2 => omega
    case b3 => unfold maxLen; omega
    intro w1 hown hgrow
    have hown' : OwT w.heap.size w1 (some ⟨w.heap.size, 0, none⟩) m m (List.replicate m Slt.z) := ⟨by simp, by rw [← made_slots]; exact hown, fun s hs => by rw [List.eq_of_mem_replicate hs]; exact rgs_z⟩
    have hbel : Below w.heap.size w w1 := (Below.refl _ _).grown hgrow (Nat.le_refl _) (by intro k hk; cases hk)
    clear hown hgrow
    go_wp2
    go_ret2
    exact ⟨_, _, _, rfl, hown', hbel⟩
  · obtain ⟨e1, e2⟩ := nw_f h
    rw [e1, e2]
    by_cases k1 : n < 2
    · clear h
      go_enter Try.func11, Try.ntmps11
      go_wp2
      go_ret2
      exact ⟨none, 0, 0, rfl, owT_nil _ _, Below.refl _ _⟩
    · by_cases k2 : 32 < n
      · clear h
        go_enter Try.func11, Try.ntmps11
        go_wp2
        go_ret2
        exact ⟨none, 0, 0, rfl, owT_nil _ _, Below.refl _ _⟩
      · have k3 : (n % 2 == 1) = true := by
          simp only [beq_iff_eq]
          unfold SizT at h
          omega
        clear h
        go_enter Try.func11, Try.ntmps11
        go_wp2
        go_ret2
        exact ⟨none, 0, 0, rfl, owT_nil _ _, Below.refl _ _⟩
theorem rright_tb (ao : Option Addr) (n cap : Nat) (l : List Slt) (w : World) (h : Tb w ao n cap l) (hn : n ≤ 9223372036854775807) :
    Calls Try.prog 18 #[.slice ao n cap] w fun e w' => e = .returned (.bool (rightB l)) ∧ Below w.heap.size w w' := by
  have hl := h.len
  go_enter Try.func18, Try.ntmps18
  go_wp2
  go_loopw [3] (fun t wr => ∃ k : Nat, k ≤ n ∧ t = .int .i64 k ∧ Hid (∀ i, i < k → MayS (sg l i)) ∧ Below w.heap.size w wr) (fun t _ => n - (intOf t).toNat)
  case atStart => exact ⟨0, Nat.zero_le _, rfl, hid (fun i hi => by omega), Below.refl _ _⟩
  case round =>
    obtain ⟨k, hk, rfl, HK, hb⟩ := hrel
    by_cases hlt : k < n
    · obtain ⟨b, off, rfl, _, _⟩ := h.here (by omega)
      obtain ⟨c0, c1, c2, c3, c4⟩ := h.at hb hlt
      have hki : (k : Int) < (n : Int) := by omega
      have HT : Hid (MayS (sg l k) → ∀ i, i < k + 1 → MayS (sg l i)) := fun hm i hi => by
        by_cases e : i = k
        · rw [e]; exact hm
        · exact HK.out i (by omega)
      have HF : Hid (¬ MayS (sg l k) → false = rightB l) := fun hm => (rightB_f (fun hr => hm (hr.may (by omega)))).symm
      have cM := rmay_any (sg l k)
      generalize sg l k = s at *
      obtain ⟨g, lv, tw, p, ln⟩ := s
      simp only at c0 c1 c2 c3 c4 cM
      clear HK h
      by_cases hm : MayS ⟨g, lv, tw, p, ln⟩
      · rw [mayB_t hm] at cM
        go_wp2_with (go_at_call 38; with_reducible refine (cM _).mono ?_; rintro e w3 ⟨rfl, hb3⟩)
        go_roundw
        case rel => exact ⟨k + 1, by omega, by go_num, hid (HT.out hm), next hb hb3⟩
        case measure => simp [intOf]; omega
      · rw [mayB_f hm] at cM
        go_wp2_with (go_at_call 38; with_reducible refine (cM _).mono ?_; rintro e w3 ⟨rfl, hb3⟩)
        go_ret
        exact ⟨ret_bool (HF.out hm), next hb hb3⟩
    · obtain rfl : k = n := by omega
      have HR : Hid (rightB l = sizB (k : Int)) := hid (by
        rw [Bool.eq_iff_iff, sizB_iff]
        constructor
        · intro e
          have := (of_decide_eq_true e).1
          rwa [hl] at this
        · intro e
          exact rightB_t ⟨by rw [hl]; exact e, may_all HK.out hl.symm⟩)
      clear h HK
      by_cases k1 : 2 ≤ (k : Int)
      · by_cases k2 : (k : Int) ≤ 32
        · by_cases k3 : (k : Int) % 2 = 0
          · have HV := hid (sizB_t (n := (k : Int)) ⟨k1, k2, k3⟩)
            have k3' : ((k : Int) % 2 == 0) = true := by simpa using k3
            clear k3
            go_wp2
            go_ret
            exact ⟨ret_bool (by rw [HR.out, HV.out]), hb⟩
          · have HV := hid (sizB_f (n := (k : Int)) (fun e => k3 e.2.2))
            have k3' : ((k : Int) % 2 == 0) = false := by simpa using k3
            clear k3
            go_wp2
            go_ret
            exact ⟨ret_bool (by rw [HR.out, HV.out]), hb⟩
        · have HV := hid (sizB_f (n := (k : Int)) (fun e => k2 e.2.1))
          go_wp2
          go_ret
          exact ⟨ret_bool (by rw [HR.out, HV.out]), hb⟩
      · have HV := hid (sizB_f (n := (k : Int)) (fun e => k1 e.1))
        go_wp2
        go_ret
        exact ⟨ret_bool (by rw [HR.out, HV.out]), hb⟩
set_option maxHeartbeats 2000000 in
theorem rfind_tb (ao : Option Addr) (n cap : Nat) (l : List Slt) (I G : Int) (w : World) (h : Tb w ao n cap l) (hn : n ≤ 9223372036854775807) :
    Calls Try.prog 13 #[.slice ao n cap, .agg #[.int .i64 I, .int .i64 G]] w fun e w' => e = .returned (.tuple #[.int .i64 (fnI l I G), .bool (fnB l I G)]) ∧ Below w.heap.size w w' := by
  have hl := h.len
  have hbA : Below w.heap.size w (w.alloc (.cells #[.int .i64 I, .int .i64 G] 24)) := (Below.refl _ w).alloc (Nat.le_refl _) _
  by_cases hI0 : 0 ≤ I
  · obtain ⟨k, rfl⟩ := Int.eq_ofNat_of_zero_le hI0
    have u0 : decide ((k : Int) < 0) = false := by simp
    by_cases hk : k < n
    · have u1 : ¬ ((n : Int) ≤ (k : Int)) := by omega
      have u2 : decide ((n : Int) ≤ (k : Int)) = false := decide_eq_false u1
      have u3 : decide (n ≤ k) = false := decide_eq_false (by omega)
      have u4 : ¬ (n ≤ k) := by omega
      obtain ⟨b, off, rfl, hbl, _⟩ := h.here (by omega)
      obtain ⟨c0, c1, c2, c3, c4⟩ := h.at hbA hk
      have HI : Hid (FnOk l k G ↔ (sg l k).live = true ∧ (sg l k).gen = G) := by
        refine hid ⟨fun h => by simpa using h.2.2, fun h => ⟨by omega, by rw [hl]; omega, by simpa using h.1, by simpa using h.2⟩⟩
      have hki : (k : Int) < (n : Int) := by omega
      generalize sg l k = s at *
      obtain ⟨g, lv, tw, p, ln⟩ := s
      simp only at c0 c1 c2 c3 c4 HI
      cases lv with
      | false =>
        obtain ⟨e1, e2⟩ := fn_f (l := l) (I := k) (G := G) (fun h => by have := (HI.out.1 h).1; cases this)
        rw [e1, e2]
        clear HI e1 e2 h
        go_enter Try.func13, Try.ntmps13
        go_wp2
        go_quiet (fail)
        go_wp2
        go_ret2
        exact ⟨rfl, below_drewN hbA _⟩
      | true =>
        by_cases hG : g = G
        · obtain ⟨e1, e2⟩ := fn_t (l := l) (I := k) (G := G) (HI.out.2 ⟨rfl, hG⟩)
          rw [e1, e2]
          have hG' : (g != G) = false := by simpa using hG
          clear HI e1 e2 h hG
          go_enter Try.func13, Try.ntmps13
          go_wp2
          go_quiet (fail)
          go_wp2
          go_ret2
          exact ⟨rfl, below_drewN hbA _⟩
        · obtain ⟨e1, e2⟩ := fn_f (l := l) (I := k) (G := G) (fun h => hG (HI.out.1 h).2)
          rw [e1, e2]
          have hG' : (g != G) = true := by simpa using hG
          clear HI e1 e2 h hG
          go_enter Try.func13, Try.ntmps13
          go_wp2
          go_quiet (fail)
          go_wp2
          go_ret2
          exact ⟨rfl, below_drewN hbA _⟩
    · have u1 : (n : Int) ≤ (k : Int) := by omega
      have u2 : decide ((n : Int) ≤ (k : Int)) = true := decide_eq_true u1
      have u3 : decide (n ≤ k) = true := decide_eq_true (by omega)
      have u4 : n ≤ k := by omega
      obtain ⟨e1, e2⟩ := fn_f (l := l) (I := k) (G := G) (fun h => hk (by have := h.2.1; omega))
      rw [e1, e2]
      clear e1 e2 h
      go_enter Try.func13, Try.ntmps13
      go_wp2
      go_quiet (fail)
      go_wp2
      go_ret2
      exact ⟨rfl, below_drewN hbA _⟩
  · have u0 : decide (I < 0) = true := by simp; omega
    obtain ⟨e1, e2⟩ := fn_f (l := l) (I := I) (G := G) (fun h => hI0 h.1)
    rw [e1, e2]
    clear e1 e2 h
    go_enter Try.func13, Try.ntmps13
    go_wp2
    go_quiet (fail)
    go_wp2
    go_ret2
    exact ⟨rfl, below_drewN hbA _⟩
set_option maxHeartbeats 1000000 in
theorem rchain_tb (ao : Option Addr) (n cap : Nat) (l : List Slt) (w : World) (h : Tb w ao n cap l) (hn : n ≤ 8796093022208) :
    Calls Try.prog 21 #[.slice ao n cap] w fun e w' => ∃ bo m c, e = .returned (.slice bo m c) ∧ Own .i64 3 w.heap.size w' bo m c (nI (chT l)) ∧ Below w.heap.size w w' := by
  have hl := h.len
  obtain ⟨i0, hi, hz0, hz1, hz2⟩ := info_parts Try.info3
  go_enter Try.func21, Try.ntmps21
  go_wp2
  go_loopw [3, 4] (fun s3 s4 wr => ∃ (k : Nat) (bo : Option Addr) (m c : Nat), k ≤ n ∧ s4 = .int .i64 k ∧ s3 = .slice bo m c ∧ Own .i64 3 w.heap.size wr bo m c (nI (chN l k)) ∧ Below w.heap.size w wr) (fun _ s4 _ => n - (intOf s4).toNat)
  case atStart => exact ⟨0, none, 0, 0, Nat.zero_le _, rfl, rfl, own_nil _ _ _ _, Below.refl _ _⟩
  case round =>
    obtain ⟨k, bo, m, c, hk, rfl, rfl, ho, hb⟩ := hrel
    by_cases hlt : k < n
    · obtain ⟨b, off, rfl, _, _⟩ := h.here (by omega)
      obtain ⟨c0, c1, c2, c3, c4⟩ := h.at hb hlt
      have hki : (k : Int) < (n : Int) := by omega
      have hmk : m ≤ k := by have h1 := ho.len; have h2 := chN_length l k; rw [nI_length] at h1; omega
      have hlen := ho.len
      have HY : Hid (openB (sg l k) = true → nI (chN l (k + 1)) = nI (chN l k) ++ [(k : Int)]) := fun e => by rw [chN_yes e, nI_app]; rfl
      have HN : Hid (openB (sg l k) = false → nI (chN l (k + 1)) = nI (chN l k)) := fun e => by rw [chN_no e]
      generalize sg l k = s at *
      obtain ⟨g, lv, tw, p, ln⟩ := s
      simp only at c0 c1 c2 c3 c4
      clear h
      cases lv with
      | true =>
        have HN' := hid (HN.out (openB_f (fun e => by have := e.1; cases this)))
        clear HY HN
        go_wp2
        go_roundw
        case rel => exact ⟨k + 1, bo, m, c, by omega, by go_num, rfl, by rw [HN'.out]; exact ho, hb⟩
        case measure => simp [intOf]; omega
      | false =>
        by_cases hg : g = 65535
        · have HN' := hid (HN.out (openB_f (fun e => e.2 hg)))
          have hg' : (g != 65535) = false := by simpa using hg
          clear HY HN hg
          go_wp2
          go_roundw
          case rel => exact ⟨k + 1, bo, m, c, by omega, by go_num, rfl, by rw [HN'.out]; exact ho, hb⟩
          case measure => simp [intOf]; omega
        · have HY' := hid (HY.out (openB_t ⟨rfl, hg⟩))
          have hg' : (g != 65535) = true := by simpa using hg
          clear HY HN hg
          go_wp2_with (first
            | (at_builtin; refine wpList_append_own _ rfl _ _ 35 rfl w.heap.size 3 i0 (.int .i64 0) 1 8 Try.underlying35 hi hz0 hz1 hz2 rfl (by decide) _ _ _ rfl (ho.row.alloc _) ⟨wr.heap.size, 0, none⟩ 1 1 [.int .i64 k] rfl rfl ?c1 ?c2 ?c3 ?c4 ?c5 ?_))
          case c1 => exact cell_one_new _ _ _
          case c2 => intro u hu; simp at hu; subst hu; rfl
          case c3 => unfold maxLen; omega
          case c4 => omega
          case c5 => have := hb.size; simp; omega
          intro v' w1 hown' hgrow _
          obtain ⟨g1, c', rfl⟩ := own_shape hown' (by omega)
          have hb' : Below w.heap.size w w1 := (hb.alloc hb.size _).grown hgrow (by have := hb.size; simp; omega) (fun b hb' => (ho.row.lt b hb').1)
          have ho' : Own .i64 3 w.heap.size w1 (some ⟨g1, 0, none⟩) (m + 1) c' (nI (chN l (k + 1))) := ⟨by rw [HY'.out]; simp [hlen], by rw [HY'.out, List.map_append]; exact hown'⟩
          clear hown' hgrow ho
          go_wp2
          go_roundw
          case rel => exact ⟨k + 1, some ⟨g1, 0, none⟩, m + 1, c', by omega, by go_num, rfl, ho', hb'⟩
          case measure => simp [intOf]; omega
    · obtain rfl : k = n := by omega
      have HC : Hid (chT l = chN l k) := hid (by unfold chT; rw [hl])
      clear h
      go_wp2
      go_ret
      exact ⟨bo, m, c, rfl, by rw [HC.out]; exact ho, hb⟩
theorem rnext_tb (ao : Option Addr) (n cap : Nat) (l : List Slt) (w : World) (h : Tb w ao n cap l) (hn : n ≤ 8796093022208) :
    Calls Try.prog 15 #[.slice ao n cap] w fun e w' => e = .returned (.tuple #[.int .i64 (nxN l : Int), .bool (nxB l)]) ∧ Below w.heap.size w w' := by
  have cC := rchain_tb ao n cap l w h hn
  cases e : chT l with
  | nil =>
    rw [(nx_none e).1, (nx_none e).2]
    rw [e] at cC
    have cC' : Calls Try.prog 21 #[.slice ao n cap] w fun e w' => ∃ bo c, e = .returned (.slice bo 0 c) ∧ Below w.heap.size w w' := cC.mono (fun e w' ⟨bo, m, c, he, ho, hb⟩ => by
      obtain rfl : 0 = m := ho.len
      exact ⟨bo, c, he, hb⟩)
    clear h cC e
    go_enter Try.func15, Try.ntmps15
    go_wp2_with (first
      | (go_at_call 21; with_reducible refine cC'.mono ?_; rintro e w1 ⟨a1, k1, rfl, hb1⟩))
    go_ret2
    exact ⟨rfl, hb1⟩
  | cons j r =>
    rw [(nx_of e).1, (nx_of e).2]
    rw [e] at cC
    have cC' : Calls Try.prog 21 #[.slice ao n cap] w fun e w' => ∃ g m c, e = .returned (.slice (some ⟨g, 0, none⟩) (m + 1) c) ∧ w'.cell? ⟨g, 0, none⟩ = some (.int .i64 (j : Int)) ∧ m + 1 ≤ 9223372036854775807 ∧ Below w.heap.size w w' := cC.mono (fun e w' ⟨bo, m, c, he, ho, hb⟩ => by
      have hm := ho.len
      simp only [nI, List.map_cons, List.length_cons, List.length_map] at hm
      obtain rfl : r.length + 1 = m := hm
      obtain ⟨g, c', e2⟩ := own_shape ho.row (by omega)
      simp only [Value.slice.injEq] at e2
      obtain ⟨rfl, _, _⟩ := e2
      have hc := ho.cap_le
      exact ⟨g, r.length, c, he, ho.at 0 (by omega) rfl, by omega, hb⟩)
    clear h cC e
    go_enter Try.func15, Try.ntmps15
    go_wp2_with (first
      | (go_at_call 21; with_reducible refine cC'.mono ?_; rintro e w1 ⟨g1, m1, k1, rfl, hc1, hm1, hb1⟩; have hz : (((m1 + 1 : Nat) : Int) == 0) = false := (beq_false_nat m1); have hz2 : (0 : Int) < ((m1 + 1 : Nat) : Int) := zero_lt_nat m1))
    go_ret2
    exact ⟨rfl, hb1⟩
end Go.Proofs.Ytijfiaggneeibaa
