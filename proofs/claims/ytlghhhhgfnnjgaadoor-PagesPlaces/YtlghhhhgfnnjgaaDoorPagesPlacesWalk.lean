/- 'PagesPlaces' walked: with the object that Place told right ones stay right, the others' pages keep their kinds. -/
import Derived.Test.YtlghhhhgfnnjgaaDoorPagAid
namespace Go.Proofs.YtlghhhhgfnnjgaaDoor
set_option maxRecDepth 100000
open Go.RowKit
set_option linter.unusedVariables false
set_option linter.unusedSimpArgs false
set_option maxRecDepth 100000

set_option maxHeartbeats 1000000 in
theorem pagesPlaces_walk (w : World) (T : Cws w) (P : Int) (hw0 : (Lit.int .i64 P).wf = true) (ao : Option Addr) (n cap : Nat) (l : List Spn) (h : Ps w ao n cap l) (hc : cap * 16 ≤ 140737488351232) (z : Int) (hw2 : (Lit.int .i64 z).wf = true) :
    Calls Tryd.prog 5 #[.int .i64 P, .slice ao n cap, .int .i64 z] w fun e w' => e = .returned (.bool true) ∧ Below w.heap.size w w' := by
  have hroom := h.room
  have hlen := h.len
  have hz := bounds_i64 hw2
  have cS := smallG_any w T
  clear hw0 hw2
  by_cases hn : 200 < n
  · have hni : (200 : Int) < (n : Int) := by omega
    clear h T
    go_enter Tryd.func5, Tryd.ntmps5
    go_wp2_with (go_at_call 9; with_reducible refine cS.mono ?_; rintro e w1 ⟨rfl, hb1⟩)
    go_ret
    exact ⟨rfl, hb1⟩
  · have hni : ¬ ((200 : Int) < (n : Int)) := by omega
    have cK := fun w' (hb : Below w.heap.size w w') => kinds_ps P ao n cap l w' (T.kept hb) (h.below hb) (by omega)
    have cP := fun w' (hb : Below w.heap.size w w') => place_ps P ao n cap l z w' (T.kept hb) (h.below hb) (by omega)
    rcases pc_cases P l z with ⟨e1, e2, e3⟩ | ⟨e1, e3⟩
    · simp only [e2, e3] at cP
      clear h T e1 e2 e3
      generalize kzL P l = K at *
      generalize rtO P l = rt at *
      go_enter Tryd.func5, Tryd.ntmps5
      go_wp2_with (first
        | (go_at_call 9; with_reducible refine cS.mono ?_; rintro e w1 ⟨rfl, hb1⟩)
        | (go_at_call 10; with_reducible refine (cK _ hb1).mono ?_; rintro e w2 ⟨b2, m2, c2, rfl, ho2, hb2⟩; clear ho2; have hb2a := next hb1 hb2)
        | (go_at_call 12; with_reducible refine (cP _ hb2a).mono ?_; rintro e w3 ⟨rfl, hb3⟩; have hb3a := next hb2a hb3))
      go_ret
      exact ⟨rfl, hb3a⟩
    · simp only [e3] at cP
      obtain ⟨hr, hz1, x0, x1, hR, hkeep⟩ := places e1
      obtain ⟨P0, P1⟩ := hr.rng
      obtain ⟨N, rfl⟩ : ∃ N : Nat, P = N := ⟨P.toNat, by omega⟩
      simp only [(kz_t hr).1, (kz_t hr).2] at cK
      have cN := fun w' a m c (hb : Below w.heap.size w w') (h' : Ps w' a m c (l ++ [⟨pcN N l z, z⟩])) (hm : m ≤ 8796093022208) => kinds_ps N a m c (l ++ [⟨pcN N l z, z⟩]) w' (T.kept hb) h' hm
      simp only [(kz_t hR).1, (kz_t hR).2] at cN
      have HL1 : Hid ((kzN N l).length = N) := hid (by rw [kzN_len]; omega)
      have HL2 : Hid ((kzN N (l ++ [⟨pcN N l z, z⟩])).length = N) := hid (by rw [kzN_len]; omega)
      have HKP : Hid (∀ i, i < N → (kzN N l).getD i 0 ≠ -1 → (kzN N (l ++ [⟨pcN N l z, z⟩])).getD i 0 = (kzN N l).getD i 0) := hid (fun i hi => by
        rw [kzN_at (by omega), kzN_at (by omega)]
        exact hkeep i)
      have hrg : RgP ⟨pcN N l z, z⟩ := ⟨by unfold Rg; show _ ≤ pcN N l z ∧ pcN N l z ≤ _; omega, hz⟩
      have HPS := hid (fun w' (hb : Below w.heap.size w w') => h.below hb)
      have h16 : (0 + n) * 16 ≤ 140737488355328 := by omega
      have h16' : (n + 1) * 16 ≤ 140737488355328 := by omega
      clear h T hr hR hkeep e1 e3 hz1
      generalize hKN : kzN N (l ++ [⟨pcN N l z, z⟩]) = KN at *
      clear hKN
      generalize pcN N l z = x at *
      generalize hK : kzN N l = K at *
      clear hK
      have hN64 : N ≤ 64 := by omega
      clear P0 P1
      go_enter Tryd.func5, Tryd.ntmps5
      go_wp2_with (first
        | (go_at_call 9; with_reducible refine cS.mono ?_; rintro e w1 ⟨rfl, hb1⟩)
        | (go_at_call 10; with_reducible refine (cK _ hb1).mono ?_; rintro e w2 ⟨b2, m2, c2, rfl, ho2, hb2⟩; have HO2 := hid ho2; clear ho2; have hb2a := next hb1 hb2; obtain rfl := HO2.out.len.symm.trans HL1.out)
        | (go_at_call 12; with_reducible refine (cP _ hb2a).mono ?_; rintro e w3 ⟨rfl, hb3⟩; have hb3a := next hb2a hb3; have hbA := hb3a.alloc hb3a.size (.cells #[] 39); have hoE := own_emptyJ w.heap.size w3 hb3a.size; have HPA := hid (HPS.out _ hbA); have hszA := hbA.size; have HO3 := hid (HO2.out.below hb3))
        | (at_builtin; refine append_js rfl (.tmp 42) (.tmp 43) rfl w3.heap.size _ 0 [] rfl (own_emptyJ w3.heap.size w3 (Nat.le_refl _)) (by intro x hx; cases hx) ao n cap l rfl HPA.out h16 (by simp) ?_; intro bi ci w4 ho4 hg4; have hb4 : Below w3.heap.size w3 w4 := ((Below.refl _ w3).alloc (Nat.le_refl _) (.cells #[] 39)).grown hg4 (by simp) (fun j hj => ((own_emptyJ w3.heap.size w3 (Nat.le_refl _)).lt j hj).1); rw [Nat.zero_add, List.nil_append] at ho4; rw [Nat.zero_add]; have hbB := hb4.alloc hb4.size (.cells #[.int .i64 x, .int .i64 z] 39); have hoB := ho4.below ((Below.refl _ w4).alloc (Nat.le_refl _) (.cells #[.int .i64 x, .int .i64 z] 39)); have HPO := hid (ps_object w4 w4.heap.size ⟨x, z⟩ rfl hrg); have hszB := hbB.size; clear ho4 hg4)
        | (at_builtin; refine append_js rfl (.tmp 44) (.tmp 48) rfl w3.heap.size _ n l rfl hoB.row hoB.rg (some ⟨w4.heap.size, 0, none⟩) 1 1 [⟨x, z⟩] rfl HPO.out h16' hszB ?_; intro bj cj w5 ho5 hg5; have hb5 : Below w3.heap.size w3 w5 := hbB.grown hg5 hszB (fun j hj => (hoB.row.lt j hj).1); have HP5 := hid ho5.ps; clear ho5 hg5; have hb5a := next hb3a hb5; have HO5 := hid (HO3.out.below hb5))
        | (go_at_call 10; with_reducible refine (cN _ _ _ _ hb5a HP5.out (by omega)).mono ?_; rintro e w6 ⟨b6, m6, c6, rfl, ho6, hb6⟩; have HO6 := hid ho6; clear ho6; have hb6a := next hb5a hb6; have HO26 := hid (HO5.out.below hb6); have hm6 := HO6.out.len; rw [HL2.out] at hm6; subst hm6))
      clear HO2 HO3 HO5 HP5 HPO HPA HPS hoB hoE cK cP cN cS HL1 HL2
      go_loopw [14] (fun s14 wr => ∃ i : Nat, i ≤ m2 ∧ s14 = .int .i64 i ∧ Below w6.heap.size w6 wr) (fun s14 _ => m2 - (intOf s14).toNat)
      case atStart => exact ⟨0, Nat.zero_le _, rfl, Below.refl _ _⟩
      case round =>
        obtain ⟨i, hi, rfl, hbq⟩ := hrel
        by_cases hlt : i < m2
        · have hii : (i : Int) < (m2 : Int) := by omega
          have HA := hid (HO26.out.below hbq)
          have HB := hid (HO6.out.below hbq)
          obtain ⟨g1, rfl⟩ := own_at HA.out (by omega)
          obtain ⟨g2, rfl⟩ := own_at HB.out (by omega)
          obtain ⟨V, hV⟩ : ∃ V, K.getD i 0 = V := ⟨_, rfl⟩
          obtain ⟨U, hU⟩ : ∃ U, KN.getD i 0 = U := ⟨_, rfl⟩
          have v0 := HA.out.at i hlt hV
          have u0 := HB.out.at i hlt hU
          have hk := HKP.out i hlt
          rw [hV, hU] at hk
          clear HA HB HO26 HO6 HKP hV hU
          by_cases hv : V = -1
          · have hvd : (V != -1) = false := by simpa using hv
            clear hv hk
            go_wp2
            go_quiet (fail)
            go_wp2
            go_roundw
            case rel => exact ⟨i + 1, by omega, by go_num, below_drewN hbq _⟩
            case measure => simp [intOf]; omega
          · obtain rfl := hk hv
            have hvd : (U != -1) = true := by simpa using hv
            clear hv hk
            go_wp2
            go_quiet (fail)
            go_wp2
            go_roundw
            case rel => exact ⟨i + 1, by omega, by go_num, below_drewN hbq _⟩
            case measure => simp [intOf]; omega
        · obtain rfl : i = m2 := by omega
          clear HO26 HO6 HKP
          go_wp2
          go_ret
          exact ⟨rfl, next hb6a hbq⟩
end Go.Proofs.YtlghhhhgfnnjgaaDoor
