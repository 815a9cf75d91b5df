/- 'PagesLeast' walked: the row of free pages that fits best is one of them; none that is long enough is shorter, or alike and ahead of it. -/
import Derived.Test.YtlghhhhgfnnjgabDoorPagZ
import Derived.Test.YtlghhhhgfnnjgabDoorSmallPag
import Derived.Test.YtlghhhhgfnnjgabDoorLeastM
namespace Go.Proofs.YtlghhhhgfnnjgabDoor
set_option maxRecDepth 100000
open Go.RowKit
set_option linter.unusedVariables false
set_option linter.unusedSimpArgs false
set_option maxRecDepth 100000

set_option maxHeartbeats 1000000 in
theorem pagesLeast_walk (w : World) (T : Cws w) (ao : Option Addr) (n cap : Nat) (ks : List Int) (h : Sl .i64 w ao n cap ks) (hwf : ∀ x ∈ ks, (Lit.int .i64 x).wf = true) (hc : cap * 8 ≤ 140737488351232) (z : Int) (hw : (Lit.int .i64 z).wf = true) :
    Calls Tryd.prog 3 #[.slice ao n cap, .int .i64 z] w fun e w' => e = .returned (.bool true) ∧ Below w.heap.size w w' := by
  have hroom := h.room
  have hlen := h.len
  have cS := smallG_any w T
  clear hwf hw
  by_cases hn : 1024 < n
  · have hni : (1024 : Int) < (n : Int) := by omega
    clear h T
    go_enter Tryd.func3, Tryd.ntmps3
    go_wp2_with (go_at_call 4; with_reducible refine cS.mono ?_; rintro e w1 ⟨rfl, hb1⟩)
    go_ret
    exact ⟨rfl, hb1⟩
  · have hni : ¬ ((1024 : Int) < (n : Int)) := by omega
    have cR := fun w' (hb : Below w.heap.size w w') => runs_sl ao n cap ks w' (h.below hb) (by omega)
    have cB := fun w' (hb : Below w.heap.size w w') => bestK_sl ao n cap ks z w' (h.below hb) (by omega)
    have HSH : Hid (0 < n → ∃ b o, ao = some ⟨b, o, none⟩) := hid (fun hn => by obtain ⟨b, o, e, _⟩ := h.here hn; exact ⟨b, o, e⟩)
    have HSL := hid (fun w' (hb : Below w.heap.size w w') => h.below hb)
    have HSUM : Hid (suN (rnL ks) (rnL ks).length = fcN ks n) := hid (by rw [← hlen]; exact runs_count ks)
    have HSN : Hid (∀ i, i ≤ (rnL ks).length → 0 ≤ suN (rnL ks) i ∧ suN (rnL ks) i ≤ suN (rnL ks) (rnL ks).length) := hid (fun i hi => su_nn (by omega) i hi)
    have HFL : Hid (∀ k, fcN ks k ≤ k) := hid (fc_le ks)
    have HSZ : Hid (∀ i, i < (rnL ks).length → 0 ≤ (pa (rnL ks) i).pos ∧ 1 ≤ (pa (rnL ks) i).sz ∧ (pa (rnL ks) i).pos + (pa (rnL ks) i).sz ≤ n) := hid (fun i hi => by rw [← hlen]; exact rn_rg (k := ks.length) (by omega) _ (pa_mem hi))
    have HBO : Hid ((btN ks z = 0 ∧ btB ks z = false ∧ ∀ i, i < (rnL ks).length → 1 ≤ z → (pa (rnL ks) i).sz < z) ∨ ∃ q, q < (rnL ks).length ∧ btN ks z = (pa (rnL ks) q).pos ∧ btB ks z = true ∧ 1 ≤ z ∧ z ≤ (pa (rnL ks) q).sz ∧ (∀ i, i < (rnL ks).length → z ≤ (pa (rnL ks) i).sz → ¬ BtrP (pa (rnL ks) i) (pa (rnL ks) q)) ∧ ∀ i, i < (rnL ks).length → (pa (rnL ks) i).pos = (pa (rnL ks) q).pos → i = q) := hid (by
      cases e : btO ks z with
      | none => exact Or.inl ⟨(bt_f e).1, (bt_f e).2, fun i hi hz => bt_none e hz _ (pa_mem hi)⟩
      | some s =>
        obtain ⟨h1, h2, h3, h4⟩ := bt_some e
        obtain ⟨q, hq, rfl⟩ := mem_pa h2
        exact Or.inr ⟨q, hq, (bt_t e).1, (bt_t e).2, h1, h3, fun i hi hz => h4 _ (pa_mem hi) hz, fun i hi he => rn_same hi hq he⟩)
    have HRL : Hid ((rnL ks).length ≤ n) := hid (by have := rn_len ks ks.length; unfold rnL; omega)
    generalize btN ks z = at' at *
    generalize btB ks z = is at *
    generalize rnL ks = R at *
    clear h T
    go_enter Tryd.func3, Tryd.ntmps3
    go_wp2_with (first
      | (go_at_call 4; with_reducible refine cS.mono ?_; rintro e w1 ⟨rfl, hb1⟩)
      | (go_at_call 5; with_reducible refine (cR _ hb1).mono ?_; rintro e w2 ⟨b2, m2, c2, rfl, ho2, hb2⟩; have HP2 := hid ho2.ps; clear ho2; have hb2a := next hb1 hb2)
      | (go_at_call 6; with_reducible refine (cB _ hb2a).mono ?_; rintro e w3 ⟨rfl, hb3⟩; have hb3a := next hb2a hb3; have HP3 := hid (HP2.out.below hb3)))
    have hlm := HP3.out.len
    clear cS cR cB HP2
    rw [hlm] at HSUM HSN HSZ HBO HRL
    have hmn := HRL.out
    clear hlm
    go_loopw [9, 10] (fun s9 s10 wr => ∃ k : Nat, k ≤ n ∧ s9 = .int .i64 (fcN ks k : Nat) ∧ s10 = .int .i64 k ∧ w3 = wr) (fun _ s10 _ => n - (intOf s10).toNat)
    case atStart => exact ⟨0, Nat.zero_le _, rfl, rfl, rfl⟩
    case round =>
      obtain ⟨k, hk, rfl, rfl, rfl⟩ := hrel
      by_cases hlt : k < n
      · obtain ⟨b, o, rfl⟩ := HSH.out (by omega)
        have c0 := (HSL.out _ hb3a).kat (Below.refl _ _) hlt
        have hki : (k : Int) < (n : Int) := by omega
        have hfl := HFL.out k
        by_cases hf : ka ks k = -1
        · have HN : Hid (fcN ks (k + 1) = fcN ks k + 1) := hid (fc_free hf)
          have x1 : IntKind.i64.wrap ((fcN ks k : Nat) + 1) = ((fcN ks (k + 1) : Nat) : Int) := by
            rw [HN.out, IntWalk.i64_in _ ⟨by omega, by omega⟩]; omega
          rw [hf] at c0
          clear hf HSH HSL HSUM HSN HFL HSZ HBO HRL HP3 HN
          generalize fcN ks k = fk at *
          go_wp2
          go_roundw
          case rel => exact ⟨k + 1, by omega, rfl, by go_num, trivial⟩
          case measure => simp [intOf]; omega
        · have HN : Hid (fcN ks (k + 1) = fcN ks k) := hid (fc_not hf)
          have hfd : (ka ks k == -1) = false := by simpa using hf
          generalize ka ks k = v at *
          clear hf HSH HSL HSUM HSN HFL HSZ HBO HRL HP3
          go_wp2
          go_roundw
          case rel => exact ⟨k + 1, by omega, by rw [HN.out], by go_num, trivial⟩
          case measure => simp [intOf]; omega
      · obtain rfl : k = n := by omega
        have HF : Hid ((fcN ks k : Nat) = suN R m2 ∧ fcN ks k ≤ 1024) := hid ⟨HSUM.out.symm, by have := HFL.out k; omega⟩
        generalize fcN ks k = F at *
        clear HSUM HFL HSH HSL
        rcases HBO.out with ⟨q1, q2, q3⟩ | ⟨q, hq, q1, q2, q3, q4, q5, q6⟩
        · skip
          subst q1 q2
          have HQ := hid q3
          clear HBO q3
          go_wp2
          go_loopw [9, 11, 12] (fun s9 s11 s12 wr => ∃ i : Nat, i ≤ m2 ∧ s9 = .int .i64 ((F : Int) - suN R i) ∧ s11 = .int .i64 0 ∧ s12 = .int .i64 i ∧ w3 = wr) (fun _ _ s12 _ => m2 - (intOf s12).toNat)
          case atStart => exact ⟨0, Nat.zero_le _, by show _ = Value.int .i64 ((F : Int) - 0); rw [Int.sub_zero], rfl, rfl, rfl⟩
          case round =>
            obtain ⟨i, hi, rfl, rfl, rfl, rfl⟩ := hrel
            by_cases him : i < m2
            · have hii : (i : Int) < (m2 : Int) := by omega
              obtain ⟨b, o, rfl, _, _⟩ := HP3.out.here (by omega)
              obtain ⟨d0, d1⟩ := HP3.out.at (Below.refl _ _) him
              have x1 : IntKind.i64.wrap ((F : Int) - suN R i - (pa R i).sz) = (F : Int) - suN R (i + 1) := by
                have a1 := HSN.out i (by omega)
                have a2 := HSN.out (i + 1) (by omega)
                have a3 : suN R (i + 1) = suN R i + (pa R i).sz := rfl
                have a4 := HF.out
                rw [IntWalk.i64_in _ ⟨by omega, by omega⟩]
                omega
              generalize pa R i = s at *
              obtain ⟨p, y⟩ := s
              simp only at d0 d1 x1
              clear HQ HSN HSZ HRL HP3 HF
              generalize suN R i = si at *
              go_wp2
              go_roundw
              case rel => exact ⟨i + 1, by omega, rfl, rfl, by go_num, trivial⟩
              case measure => simp [intOf]; omega
            · obtain rfl : i = m2 := by omega
              have hz0 : ((F : Int) - suN R i != 0) = false := by have := HF.out; simp; omega
              generalize (F : Int) - suN R i = dif at *
              clear HF HSN
              go_wp2
              clear hz0
              go_loopw [13] (fun s13 wr => ∃ t : Nat, t ≤ i ∧ s13 = .int .i64 t ∧ w3 = wr) (fun s13 _ => i - (intOf s13).toNat)
              case atStart => exact ⟨0, Nat.zero_le _, rfl, rfl⟩
              case round =>
                obtain ⟨t, ht, rfl, rfl⟩ := hrel
                by_cases hti : t < i
                · have htt : (t : Int) < (i : Int) := by omega
                  obtain ⟨b, o, rfl, _, _⟩ := HP3.out.here (by omega)
                  obtain ⟨d0, d1⟩ := HP3.out.at (Below.refl _ _) hti
                  have hlt3 := HQ.out t hti
                  generalize pa R t = s at *
                  obtain ⟨p, y⟩ := s
                  simp only at d0 d1 hlt3
                  clear HQ HSZ HRL HP3
                  by_cases hz : 1 ≤ z
                  · have hy : ¬ z ≤ y := by have := hlt3 hz; omega
                    clear hlt3
                    go_wp2
                    go_roundw
                    case rel => exact ⟨t + 1, by omega, by go_num, trivial⟩
                    case measure => simp [intOf]; omega
                  · clear hlt3
                    go_wp2
                    go_roundw
                    case rel => exact ⟨t + 1, by omega, by go_num, trivial⟩
                    case measure => simp [intOf]; omega
                · obtain rfl : t = i := by omega
                  clear HQ HSZ HRL HP3
                  go_wp2
                  go_ret
                  exact ⟨rfl, hb3a⟩
        · skip
          subst q1 q2
          have HQ5 := hid q5
          have HQ6 := hid q6
          have hsq := HSZ.out q hq
          clear HBO q5 q6
          obtain ⟨sp, hsp⟩ : ∃ sp, pa R q = sp := ⟨_, rfl⟩
          have HSP := hid hsp
          rw [hsp] at q4 hsq ⊢
          obtain ⟨pq, yq⟩ := sp
          simp only at q4 hsq ⊢
          clear hsp
          go_wp2
          go_loopw [9, 11, 12] (fun s9 s11 s12 wr => ∃ (i : Nat) (sz : Int), i ≤ m2 ∧ s9 = .int .i64 ((F : Int) - suN R i) ∧ s11 = .int .i64 sz ∧ s12 = .int .i64 i ∧ Hid (sz = if q < i then yq else 0) ∧ w3 = wr) (fun _ _ s12 _ => m2 - (intOf s12).toNat)
          case atStart => exact ⟨0, 0, Nat.zero_le _, by show _ = Value.int .i64 ((F : Int) - 0); rw [Int.sub_zero], rfl, rfl, hid (by rw [if_neg (by omega)]), rfl⟩
          case round =>
            obtain ⟨i, sz, hi, rfl, rfl, rfl, HZ, rfl⟩ := hrel
            by_cases him : i < m2
            · have hii : (i : Int) < (m2 : Int) := by omega
              obtain ⟨b, o, rfl, _, _⟩ := HP3.out.here (by omega)
              obtain ⟨d0, d1⟩ := HP3.out.at (Below.refl _ _) him
              have x1 : IntKind.i64.wrap ((F : Int) - suN R i - (pa R i).sz) = (F : Int) - suN R (i + 1) := by
                have a1 := HSN.out i (by omega)
                have a2 := HSN.out (i + 1) (by omega)
                have a3 : suN R (i + 1) = suN R i + (pa R i).sz := rfl
                have a4 := HF.out
                rw [IntWalk.i64_in _ ⟨by omega, by omega⟩]
                omega
              by_cases hiq : i = q
              · have HZ2 : Hid (yq = if q < i + 1 then yq else 0) := hid (by rw [if_pos (by omega)])
                have hpi : pa R i = ⟨pq, yq⟩ := by rw [hiq]; exact HSP.out
                rw [hpi] at d0 d1 x1
                simp only at d0 d1 x1
                clear HQ5 HQ6 HSN HSZ HRL HP3 HF HSP HZ hiq hpi
                generalize suN R i = si at *
                go_wp2
                go_roundw
                case rel => exact ⟨i + 1, yq, by omega, rfl, rfl, by go_num, HZ2, trivial⟩
                case measure => simp [intOf]; omega
              · have hne : ¬ (pa R i).pos = pq := fun e => hiq (HQ6.out i him (by rw [HSP.out]; exact e))
                have HZ2 : Hid (sz = if q < i + 1 then yq else 0) := hid (by
                  rw [HZ.out]
                  by_cases c : q < i
                  · rw [if_pos c, if_pos (by omega)]
                  · rw [if_neg c, if_neg (by omega)])
                generalize pa R i = s at *
                obtain ⟨p, y⟩ := s
                simp only at d0 d1 x1 hne
                have hned : (p == pq) = false := by simpa using hne
                clear HQ5 HQ6 HSN HSZ HRL HP3 HF HSP HZ hiq hne
                generalize suN R i = si at *
                go_wp2
                go_roundw
                case rel => exact ⟨i + 1, sz, by omega, rfl, rfl, by go_num, HZ2, trivial⟩
                case measure => simp [intOf]; omega
            · obtain rfl : i = m2 := by omega
              obtain rfl : sz = yq := by rw [HZ.out, if_pos (by omega)]
              have hz0 : ((F : Int) - suN R i != 0) = false := by have := HF.out; simp; omega
              have hyz : ¬ sz < z := by omega
              have hz1 : ¬ z < 1 := by omega
              generalize (F : Int) - suN R i = dif at *
              clear HF HSN HZ
              go_wp2
              clear hz0
              go_loopw [13] (fun s13 wr => ∃ t : Nat, t ≤ i ∧ s13 = .int .i64 t ∧ w3 = wr) (fun s13 _ => i - (intOf s13).toNat)
              case atStart => exact ⟨0, Nat.zero_le _, rfl, rfl⟩
              case round =>
                obtain ⟨t, ht, rfl, rfl⟩ := hrel
                by_cases hti : t < i
                · have htt : (t : Int) < (i : Int) := by omega
                  obtain ⟨b, o, rfl, _, _⟩ := HP3.out.here (by omega)
                  obtain ⟨d0, d1⟩ := HP3.out.at (Below.refl _ _) hti
                  have hnb := HQ5.out t hti
                  rw [HSP.out] at hnb
                  generalize pa R t = s at *
                  obtain ⟨p, y⟩ := s
                  unfold BtrP at hnb
                  simp only at d0 d1 hnb
                  clear HQ5 HQ6 HSZ HRL HP3 HSP
                  have hz : 1 ≤ z := by omega
                  by_cases hy : z ≤ y
                  · have h1 : ¬ y < sz := by have := hnb hy; omega
                    by_cases h2 : y = sz
                    · have h3 : ¬ p < pq := by have := hnb hy; omega
                      have h2d : (y == sz) = true := by simpa using h2
                      clear hnb h2
                      go_wp2
                      go_roundw
                      case rel => exact ⟨t + 1, by omega, by go_num, trivial⟩
                      case measure => simp [intOf]; omega
                    · have h2d : (y == sz) = false := by simpa using h2
                      clear hnb h2
                      go_wp2
                      go_roundw
                      case rel => exact ⟨t + 1, by omega, by go_num, trivial⟩
                      case measure => simp [intOf]; omega
                  · clear hnb
                    go_wp2
                    go_roundw
                    case rel => exact ⟨t + 1, by omega, by go_num, trivial⟩
                    case measure => simp [intOf]; omega
                · obtain rfl : t = i := by omega
                  clear HQ5 HQ6 HSZ HRL HP3 HSP
                  go_wp2
                  go_ret
                  exact ⟨rfl, hb3a⟩
end Go.Proofs.YtlghhhhgfnnjgabDoor
