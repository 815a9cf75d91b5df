/- 'GapsLays' walked: a block that is laid at the beginning of a gap keeps them right. -/
import Derived.Test.YtjmhgcopaphdiaaSmallGap
import Derived.Deep.QuietTactic
import Derived.BigQuiet
namespace Go.Proofs.Ytjmhgcopaphdiaa
set_option maxRecDepth 100000
open Go.RowKit
set_option linter.unusedVariables false
set_option linter.unusedSimpArgs false
set_option maxRecDepth 100000

/-- A slice from its i-th span on. -/
theorem Ps.tail {w : World} {ao : Option Addr} {n cap : Nat} {l : List Spn} (h : Ps w ao n cap l) (i : Nat) (hi : i ≤ n) : Ps w (if cap = i then ao else ao.map (·.add (i * 2))) (n - i) (cap - i) (l.drop i) := by
  have hlen := h.len
  have hroom := h.room
  refine ⟨by simp; omega, by omega, fun hn => ?_, fun hp => ?_, fun s hs => h.rg s (List.mem_of_mem_drop hs)⟩
  · by_cases hc : cap = i
    · omega
    · rw [if_neg hc] at hn
      have := h.void (by simpa using hn)
      omega
  · obtain ⟨b, off, rfl, hlt, hc⟩ := h.here (by omega)
    rw [if_neg (by omega)]
    refine ⟨b, off + i * 2, by simp [Addr.add_lit], hlt, fun j hj => ?_⟩
    have := hc (i + j) (by omega)
    rw [show off + i * 2 + j * 2 = off + (i + j) * 2 by omega]
    have e : pa (l.drop i) j = pa l (i + j) := by simp [pa, List.getD, List.getElem?_drop]
    rw [e]
    exact this
theorem need_facts {x : Int} (h : 1 ≤ x ∧ x ≤ 2048) : 4 ≤ ndN x ∧ ndN x % 4 = 0 ∧ ndN x ≤ 400 ∧ 2 + (x + 7) / 8 ≤ ndN x ∧ ndN x < 6 + (x + 7) / 8 := by
  rw [(nd_t h).1]
  omega
/-- What lies ahead of a row of the call's own stays when the row grows. -/
theorem after_row {w w3 w5 w6 : World} {bo5 : Option Addr} {m c5 : Nat} {L : List Spn} {u : Spn} (hx : BxP w5 w3.heap.size u) (ho : OwP (w3.heap.size + 1) w5 bo5 m c5 L) (hb : Below w.heap.size w w5) (hg : w5.grownBy w6 (Value.slice bo5 m c5).ownBlock) (h3 : w.heap.size ≤ w3.heap.size) :
    BxP w6 w3.heap.size u ∧ Below w.heap.size w w6 := by
  have hlt := ho.row.lt
  exact ⟨hx.off (F := fun j => w3.heap.size + 1 ≤ j) (Off.of_grown hg (fun j hj => Or.inl (hlt j hj).1)) (by omega), hb.grown hg hb.size (fun j hj => by have := (hlt j hj).1; omega)⟩
set_option maxHeartbeats 2000000 in
theorem gapsLays_walk (w : World) (f : Int) (hf : (Lit.int .i64 f).wf = true) (t : Int) (ht : (Lit.int .i64 t).wf = true) (ao : Option Addr) (n cap : Nat) (l : List Spn) (h : Ps w ao n cap l) (hc : cap * 16 ≤ 140737488351232) (x : Int) (hx : (Lit.int .i64 x).wf = true) :
    Calls Try.prog 6 #[.int .i64 f, .int .i64 t, .slice ao n cap, .int .i64 x] w fun e w' => e = .returned (.bool true) ∧ Below w.heap.size w w' := by
  have hl := h.len
  have hroom := h.room
  have hn : n ≤ 9223372036854775807 := by omega
  clear hf ht hx
  have c1 := fun w' => need_any x w'
  have c2 : ∀ w', Below w.heap.size w w' → Calls Try.prog 12 #[.int .i64 f, .int .i64 t, .slice ao n cap] w' fun e w'' => ∃ bo m c, e = .returned (.tuple #[.slice bo m c, .int .i64 (gpE f t l)]) ∧ OwP w'.heap.size w'' bo m c (gpL f t l) ∧ Below w'.heap.size w' w'' := fun w' hb => gapsP_ps f t ao n cap l w' (h.below hb) hn
  have c3 : ∀ bo m c w' (g : List Spn) q, Ps w' bo m c g → c ≤ 9223372036854775807 → Calls Try.prog 19 #[.slice bo m c, .int .i64 q] w' fun e w'' => e = .returned (.tuple #[.agg #[.int .i64 (bsN g q).pos, .int .i64 (bsN g q).sz], .bool (bsB g q)]) ∧ Below w'.heap.size w' w'' := fun bo m c w' g q h' hc' => best_ps bo m c g q w' h' (by have := h'.room; omega)
  have Hal : Hid (∀ w' : World, ∀ o : Obj, Below w.heap.size w w' → Below w.heap.size w (w'.alloc o)) := fun w' o h => h.alloc h.size o
  by_cases hr : RightP f t l
  · obtain ⟨e1, e2⟩ := gp_t hr
    rw [e1, e2] at c2
    obtain ⟨g, hg⟩ : ∃ g, gapsL f t l = g := ⟨_, rfl⟩
    rw [hg] at c2
    by_cases hx : 1 ≤ x ∧ x ≤ 2048
    · have hq := need_facts hx
      rw [(nd_t hx).2] at c1
      generalize ndN x = q at *
      have c3' := fun bo m c w' (h1 : Ps w' bo m c g) h2 => c3 bo m c w' g q h1 h2
      cases e : bsO g q with
      | none =>
        have hu : bsN g q = ⟨0, 0⟩ ∧ bsB g q = false := ⟨by simp [bsN, e, Spn.z], by simp [bsB, e]⟩
        rw [hu.1, hu.2] at c3'
        simp only at c3'
        have HN := hid (bs_none e)
        clear hr hg e1 e2 h hc hroom c3 e hu
        go_enter Try.func6, Try.ntmps6
        go_wp2_with (first
          | (go_at_call 9; with_reducible refine (smallP_any _).mono ?_; rintro e w1 ⟨rfl, hb1⟩)
          | (go_at_call 12; with_reducible refine (c2 _ hb1).mono ?_; rintro e w2 ⟨bo, m, c, rfl, ho2, hb2⟩; have b2 := next hb1 hb2; have hcc := ho2.cap_le)
          | (go_at_call 10; with_reducible refine (c1 _).mono ?_; rintro e w3 ⟨rfl, rfl⟩)
          | (go_at_call 19; with_reducible refine (c3' _ _ _ _ ho2.ps hcc.2).mono ?_; rintro e w3 ⟨rfl, hb3⟩; have b3 := next b2 hb3; have ho3 := ho2.below hb3))
        have hgl := ho2.len
        have b4 := Hal.out w3 (.cells #[.int .i64 0, .int .i64 0] 34) b3
        have HO4 := hid (ho3.below ((Below.refl _ w3).alloc (Nat.le_refl _) (.cells #[.int .i64 0, .int .i64 0] 34)))
        clear ho2 ho3 hb1 hb2 b2 hb3 b3 c1 c2 c3'
        go_loopw [16] (fun s16 wr => ∃ i : Nat, i ≤ m ∧ s16 = .int .i64 i ∧ w3.alloc (.cells #[.int .i64 0, .int .i64 0] 34) = wr) (fun s16 _ => m - (intOf s16).toNat)
        case atStart => exact ⟨0, Nat.zero_le _, rfl, rfl⟩
        case round =>
          obtain ⟨i, hi, rfl, rfl⟩ := hrel
          by_cases hlt : i < m
          · obtain ⟨gb, rfl, _, _⟩ := HO4.out.shape (by omega)
            have hxx := HO4.out.ps.at (Below.refl _ _) hlt
            rw [Nat.zero_add] at hxx
            obtain ⟨x0, x1⟩ := hxx
            have hii : (i : Int) < (m : Int) := by omega
            have hsm : ¬ q ≤ (pa g i).sz := by have := HN.out i (by omega); omega
            generalize pa g i = s at *
            obtain ⟨p, z⟩ := s
            simp only at x0 x1 hsm
            go_wp2
            go_roundw
            case rel => exact ⟨i + 1, by omega, by go_num, trivial⟩
            case measure => simp [intOf]; omega
          · obtain rfl : i = m := by omega
            go_wp2
            go_ret
            exact ⟨rfl, b4⟩
      | some s =>
        have hu : bsN g q = s ∧ bsB g q = true := ⟨by simp [bsN, e], by simp [bsB, e]⟩
        rw [hu.1, hu.2] at c3'
        obtain ⟨⟨i0, hi0, hi1⟩, hqs, _⟩ := bs_some e
        have hmem : s ∈ gapsL f t l := by rw [hg, ← hi1]; exact pa_mem hi0
        have hfrom := gaps_from l hr.2 hmem
        have hE := hr.1
        unfold EndP at hE
        have hn512 : n ≤ 512 := by have := hr.len; omega
        have HLay : Hid (∀ k, k ≤ n → (∀ i, i < k → (pa l i).pos < s.pos) → (k < n → ¬ (pa l k).pos < s.pos) → RightP f t (l.take k ++ [⟨s.pos, q⟩] ++ l.drop k) ∧ bhN (l.take k ++ [⟨s.pos, q⟩] ++ l.drop k) t k = s.sz - q) := fun k k1 k2 k3 => by
          have := lays_in hq.1 hq.2.1 hqs l hE.2.2.2.1 hr.2 hmem (by omega) k2 (fun h => k3 (by omega))
          rw [List.append_assoc, List.singleton_append]
          exact ⟨⟨hr.1, this.1⟩, this.2⟩
        have HP := hid h
        unfold Spn.fin at hfrom
        clear hr hg e1 e2 h hc c3 e hu hi0 hi1 hmem
        obtain ⟨p, z⟩ := s
        simp only at c3' hqs hfrom HLay
        obtain ⟨y1, y2, y3⟩ := hfrom
        obtain ⟨y4, y5, y6, _, _⟩ := hE
        have y7 : 0 ≤ p := by omega
        have y8 : p ≤ 2048 := by omega
        have y9 : z ≤ 2048 := by omega
        have hrq : RgP ⟨p, q⟩ := ⟨by unfold Rg; simp only; omega, by unfold Rg; simp only; omega⟩
        go_enter Try.func6, Try.ntmps6
        go_wp2_with (first
          | (go_at_call 9; with_reducible refine (smallP_any _).mono ?_; rintro e w1 ⟨rfl, hb1⟩)
          | (go_at_call 12; with_reducible refine (c2 _ hb1).mono ?_; rintro e w2 ⟨bo, m, c, rfl, ho2, hb2⟩; have b2 := next hb1 hb2; have hcc := ho2.cap_le)
          | (go_at_call 10; with_reducible refine (c1 _).mono ?_; rintro e w3 ⟨rfl, rfl⟩)
          | (go_at_call 19; with_reducible refine (c3' _ _ _ _ ho2.ps hcc.2).mono ?_; rintro e w3 ⟨rfl, hb3⟩; have b3 := next b2 hb3))
        have b4 := Hal.out w3 (.cells #[.int .i64 p, .int .i64 z] 34) b3
        have HX := hid (bxP_new' w3 p z)
        have hs3 := b3.size
        clear ho2 hb1 hb2 b2 hb3 b3 c1 c2 c3' y1 y2 y3 y4 y5 y6
        go_loopw [17, 18] (fun s17 s18 wr => ∃ (i : Nat) (bo2 : Option Addr) (c2 : Nat), i ≤ n ∧ s17 = .slice bo2 i c2 ∧ s18 = .int .i64 i ∧ Hid (OwP (w3.heap.size + 1) wr bo2 i c2 (l.take i)) ∧ Hid (∀ j, j < i → (pa l j).pos < p) ∧ Hid (BxP wr w3.heap.size ⟨p, z⟩) ∧ Below w.heap.size w wr) (fun _ s18 _ => n - (intOf s18).toNat)
        case atStart => exact ⟨0, none, 0, Nat.zero_le _, rfl, rfl, hid (owP_nil _ _), hid (fun j hj => by omega), HX, b4⟩
        case round =>
          obtain ⟨i, bo2, c2, hi, rfl, rfl, HO, HJ, HX1, hb⟩ := hrel
          clear b4 HX
          obtain ⟨x0, x1, _, _⟩ := HX1.out.cells
          have hxl : w3.heap.size < wr.heap.size := HX1.out.lt
          have Hg : Hid (∀ (o : Obj) nq w5, ((wr.drewN nq).alloc o).grownBy w5 (Value.slice bo2 i c2).ownBlock → BxP w5 w3.heap.size ⟨p, z⟩ ∧ Below w.heap.size w w5) := fun o nq w5 hg => by
            have hbA : Below wr.heap.size wr ((wr.drewN nq).alloc o) := (below_drewN (Below.refl _ wr) nq).alloc (Nat.le_refl _) o
            have hlt5 := HO.out.row.lt
            refine ⟨(HX1.out.kept hbA).off (F := fun j => w3.heap.size + 1 ≤ j) (Off.of_grown hg (fun j hj => Or.inl (hlt5 j hj).1)) (by omega), ?_⟩
            exact (next hb hbA).grown hg (next hb hbA).size (fun j hj => by have := (hlt5 j hj).1; omega)
          have HoA : Hid (∀ (o : Obj) nq, OwP (w3.heap.size + 1) ((wr.drewN nq).alloc o) bo2 i c2 (l.take i)) := fun o nq => HO.out.below ((below_drewN (Below.refl _ wr) nq).alloc (Nat.le_refl _) o)
          have HBA : Hid (∀ (o : Obj) nq, w3.heap.size + 1 ≤ ((wr.drewN nq).alloc o).heap.size) := fun o nq => Nat.le_trans hxl ((below_drewN (Below.refl _ wr) nq).alloc (Nat.le_refl _) o).size
          have h16 : (i + 1) * 16 ≤ 140737488355328 := by omega
          by_cases hlt : i < n ∧ (pa l i).pos < p
          · obtain ⟨hlt, hpp⟩ := hlt
            obtain ⟨b, o, rfl, hbl, _⟩ := HP.out.here (by omega)
            obtain ⟨c0, c1⟩ := HP.out.at hb hlt
            have hki : (i : Int) < (n : Int) := by omega
            have hki' : decide ((i : Int) < (n : Int)) = true := decide_eq_true hki
            have hd : decide ((pa l i).pos < p) = true := decide_eq_true hpp
            have HTk : Hid (l.take (i + 1) = l.take i ++ [pa l i]) := hid (take_pa (by omega))
            have HJ2 : Hid (∀ j, j < i + 1 → (pa l j).pos < p) := fun j hj => by
              by_cases e : j = i
              · rw [e]; exact hpp
              · exact HJ.out j (by omega)
            have hrs := HP.out.rgs hlt
            generalize pa l i = s at *
            have HPA : Hid (∀ nq, Ps ((wr.drewN nq).alloc s.obj) (some ⟨wr.heap.size, 0, none⟩) 1 1 [s]) := fun nq => ps_one (wr.drewN nq) wr.heap.size s rfl hrs
            obtain ⟨sp, sz⟩ := s
            simp only [Spn.obj] at c0 c1 hd HPA hpp
            clear HO HJ HX1 HLay hrs
            go_wp2
            go_quiet (fail)
            have HoQ := hid (HoA.out (.cells #[.int .i64 sp, .int .i64 sz] 34) nq)
            have HpQ := hid (HPA.out nq)
            have HbQ := hid (HBA.out (.cells #[.int .i64 sp, .int .i64 sz] 34) nq)
            go_wp2_with (first
              | (at_builtin; refine append_ps rfl (.tmp 85) (.tmp 90) rfl (w3.heap.size + 1) _ i (l.take i) rfl HoQ.out.row HoQ.out.rg (some ⟨wr.heap.size, 0, none⟩) 1 1 [⟨sp, sz⟩] rfl HpQ.out h16 HbQ.out ?_; intro bo5 c5 w5 ho5 hg5; have HO5 := hid ho5; obtain ⟨hx5, b5⟩ := Hg.out (.cells #[.int .i64 sp, .int .i64 sz] 34) nq w5 hg5; have HX5 := hid hx5; clear ho5 hg5 hx5))
            go_roundw
            case rel => exact ⟨i + 1, bo5, c5, by omega, rfl, by go_num, by rw [HTk.out]; exact HO5, HJ2, HX5, b5⟩
            case measure => simp [intOf]; omega
          · have hL := HLay.out i hi HJ.out (fun h1 => by have : ¬ (pa l i).pos < p := fun h2 => hlt ⟨h1, h2⟩; omega)
            have HLL : Hid (RightP f t (l.take i ++ [⟨p, q⟩] ++ l.drop i)) := hid hL.1
            have hbh := bh_t (f := f) (t := t) (l := l.take i ++ [⟨p, q⟩] ++ l.drop i) (k := (i : Int)) ⟨hL.1, by omega, by simp; omega⟩
            rw [Int.toNat_natCast, hL.2] at hbh
            have hLn := hL.1.len
            have cB : ∀ ro N rc w', Ps w' ro N rc (l.take i ++ [⟨p, q⟩] ++ l.drop i) → Calls Try.prog 14 #[.int .i64 f, .int .i64 t, .slice ro N rc, .int .i64 i] w' fun e w'' => e = .returned (.tuple #[.int .i64 (z - q), .int .i64 0]) ∧ Below w'.heap.size w' w'' := fun ro N rc w' h' => by
              have := behindP_ps f t ro N rc _ i w' h' (by have := h'.len; omega)
              rwa [hbh.1, hbh.2] at this
            have cR : ∀ ro N rc w', Ps w' ro N rc (l.take i ++ [⟨p, q⟩] ++ l.drop i) → Calls Try.prog 17 #[.int .i64 f, .int .i64 t, .slice ro N rc] w' fun e w'' => e = .returned (.bool true) ∧ Below w'.heap.size w' w'' := fun ro N rc w' h' => by
              have := rightP_ps f t ro N rc _ w' h' (by have := h'.len; omega)
              rwa [rightPB_t hL.1] at this
            have HPA : Hid (∀ nq, Ps ((wr.drewN nq).alloc (.cells #[.int .i64 p, .int .i64 q] 34)) (some ⟨wr.heap.size, 0, none⟩) 1 1 [⟨p, q⟩]) := fun nq => ps_one (wr.drewN nq) wr.heap.size ⟨p, q⟩ rfl hrq
            have HTl : Hid (∀ w5, Below w.heap.size w w5 → Ps w5 (if cap = i then ao else ao.map (·.add (i * 2))) (n - i) (cap - i) (l.drop i)) := fun w5 h5 => (HP.out.below h5).tail i hi
            clear hL hbh hLn HLay HO HJ HX1
            have h17 : (i + 1 + (n - i)) * 16 ≤ 140737488355328 := by omega
            obtain ⟨d, hd⟩ : ∃ d, (x + 7) / 8 = d := ⟨_, rfl⟩
            obtain ⟨v1, v2, v3, v4, v5⟩ := hq
            rw [hd] at v4 v5
            have d0 : 0 ≤ d := by omega
            have d1 : d ≤ 300 := by omega
            have xx0 : 0 ≤ x + 7 := by omega
            have xx1 : 1 ≤ x := hx.1
            have xx2 : x ≤ 2048 := hx.2
            have v6 : ¬ (q < 2 + d) := by omega
            clear hx v2
            by_cases hin : i < n
            · obtain ⟨b, o, rfl, hbl, _⟩ := HP.out.here (by omega)
              obtain ⟨c0, c1⟩ := HP.out.at hb hin
              have hki : (i : Int) < (n : Int) := by omega
              have hki' : decide ((i : Int) < (n : Int)) = true := decide_eq_true hki
              have hdd : decide ((pa l i).pos < p) = false := decide_eq_false (fun h2 => hlt ⟨hin, h2⟩)
              have hci : ¬ (cap = i) := by omega
              have HTl2 : Hid (∀ w5, Below w.heap.size w w5 → Ps w5 (some ⟨b, o + i * 2, none⟩) (n - i) (cap - i) (l.drop i)) := fun w5 h5 => by
                have := HTl.out w5 h5
                rw [if_neg hci] at this
                simpa [Addr.add_lit] using this
              clear HTl
              have HTl := HTl2
              clear HTl2 hlt
              generalize pa l i = s at *
              obtain ⟨sp, sz⟩ := s
              simp only at c0 c1 hdd
              go_wp2
              go_quiet (fail)
              have HoQ := hid (HoA.out (.cells #[.int .i64 p, .int .i64 q] 34) nq)
              have HpQ := hid (HPA.out nq)
              have HbQ := hid (HBA.out (.cells #[.int .i64 p, .int .i64 q] 34) nq)
              go_wp2_with (first
                | (at_builtin; refine append_ps rfl (.tmp 94) (.tmp 99) rfl (w3.heap.size + 1) _ i (l.take i) rfl HoQ.out.row HoQ.out.rg (some ⟨wr.heap.size, 0, none⟩) 1 1 [⟨p, q⟩] rfl HpQ.out h16 HbQ.out ?_; intro bo5 c5 w5 ho5 hg5; have HO5 := hid ho5; obtain ⟨hx5, b5⟩ := Hg.out (.cells #[.int .i64 p, .int .i64 q] 34) nq w5 hg5; have HX5 := hid hx5; have HT5 := hid (HTl.out w5 b5); obtain ⟨x5, _, _, _⟩ := hx5.cells; have HB5 := hid hx5.lt; clear ho5 hg5 hx5)
                | (at_builtin; refine append_ps rfl (.tmp 101) (.tmp 104) rfl (w3.heap.size + 1) (.slice bo5 (i + 1) c5) (i + 1) (l.take i ++ [(⟨p, q⟩ : Spn)]) rfl HO5.out.row HO5.out.rg (some ⟨b, o + i * 2, none⟩) (n - i) (cap - i) (l.drop i) rfl HT5.out h17 HB5.out ?_; intro bo6 c6 w6 ho6 hg6; have HO6 := hid ho6; have HG6 := hid hg6; obtain ⟨hx6, b6⟩ := after_row HX5.out HO5.out b5 hg6 hs3; have HX6 := hid hx6; clear ho6 hg6 hx6)
                | (go_at_call 14; with_reducible refine (cB _ _ _ _ HO6.out.ps).mono ?_; rintro e w7 ⟨rfl, hb7⟩; have b7 := next b6 hb7; have HO7 := hid (HO6.out.below hb7); have HX7 := hid (HX6.out.kept hb7); clear hb7)
                | (go_at_call 17; with_reducible refine (cR _ _ _ _ HO7.out.ps).mono ?_; rintro e w8 ⟨rfl, hb8⟩; have b8 := next b7 hb8; obtain ⟨_, x8, _, _⟩ := (HX7.out.kept hb8).cells; clear hb8))
              go_ret
              exact ⟨rfl, b8⟩
            · obtain rfl : i = n := by omega
              rw [Nat.sub_self] at h17
              have hki : ¬ ((i : Int) < (i : Int)) := by omega
              have hki' : decide ((i : Int) < (i : Int)) = false := decide_eq_false hki
              by_cases hci : cap = i
              · have hci' := hci.symm
                subst hci'
                have HTl2 : Hid (∀ w5, Below w.heap.size w w5 → Ps w5 ao 0 0 (l.drop i)) := fun w5 h5 => by
                  have := HTl.out w5 h5
                  rwa [if_pos rfl, Nat.sub_self] at this
                clear HTl
                have HTl := HTl2
                clear HTl2 hlt
                go_wp2
                go_quiet (fail)
                have HoQ := hid (HoA.out (.cells #[.int .i64 p, .int .i64 q] 34) nq)
                have HpQ := hid (HPA.out nq)
                have HbQ := hid (HBA.out (.cells #[.int .i64 p, .int .i64 q] 34) nq)
                go_wp2_with (first
                  | (at_builtin; refine append_ps rfl (.tmp 94) (.tmp 99) rfl (w3.heap.size + 1) _ i (l.take i) rfl HoQ.out.row HoQ.out.rg (some ⟨wr.heap.size, 0, none⟩) 1 1 [⟨p, q⟩] rfl HpQ.out h16 HbQ.out ?_; intro bo5 c5 w5 ho5 hg5; have HO5 := hid ho5; obtain ⟨hx5, b5⟩ := Hg.out (.cells #[.int .i64 p, .int .i64 q] 34) nq w5 hg5; have HX5 := hid hx5; have HT5 := hid (HTl.out w5 b5); obtain ⟨x5, _, _, _⟩ := hx5.cells; have HB5 := hid hx5.lt; clear ho5 hg5 hx5)
                  | (at_builtin; refine append_ps rfl (.tmp 101) (.tmp 104) rfl (w3.heap.size + 1) (.slice bo5 (i + 1) c5) (i + 1) (l.take i ++ [(⟨p, q⟩ : Spn)]) rfl HO5.out.row HO5.out.rg ao 0 0 (l.drop i) rfl HT5.out h17 HB5.out ?_; intro bo6 c6 w6 ho6 hg6; have HO6 := hid ho6; have HG6 := hid hg6; obtain ⟨hx6, b6⟩ := after_row HX5.out HO5.out b5 hg6 hs3; have HX6 := hid hx6; clear ho6 hg6 hx6)
                  | (go_at_call 14; with_reducible refine (cB _ _ _ _ HO6.out.ps).mono ?_; rintro e w7 ⟨rfl, hb7⟩; have b7 := next b6 hb7; have HO7 := hid (HO6.out.below hb7); have HX7 := hid (HX6.out.kept hb7); clear hb7)
                  | (go_at_call 17; with_reducible refine (cR _ _ _ _ HO7.out.ps).mono ?_; rintro e w8 ⟨rfl, hb8⟩; have b8 := next b7 hb8; obtain ⟨_, x8, _, _⟩ := (HX7.out.kept hb8).cells; clear hb8))
                go_ret
                exact ⟨rfl, b8⟩
              · have HTl2 : Hid (∀ w5, Below w.heap.size w w5 → Ps w5 (ao.map (·.add (i * 2))) 0 (cap - i) (l.drop i)) := fun w5 h5 => by
                  have := HTl.out w5 h5
                  rwa [if_neg hci, Nat.sub_self] at this
                clear HTl
                have HTl := HTl2
                clear HTl2 hlt
                go_wp2
                go_quiet (fail)
                have HoQ := hid (HoA.out (.cells #[.int .i64 p, .int .i64 q] 34) nq)
                have HpQ := hid (HPA.out nq)
                have HbQ := hid (HBA.out (.cells #[.int .i64 p, .int .i64 q] 34) nq)
                go_wp2_with (first
                  | (at_builtin; refine append_ps rfl (.tmp 94) (.tmp 99) rfl (w3.heap.size + 1) _ i (l.take i) rfl HoQ.out.row HoQ.out.rg (some ⟨wr.heap.size, 0, none⟩) 1 1 [⟨p, q⟩] rfl HpQ.out h16 HbQ.out ?_; intro bo5 c5 w5 ho5 hg5; have HO5 := hid ho5; obtain ⟨hx5, b5⟩ := Hg.out (.cells #[.int .i64 p, .int .i64 q] 34) nq w5 hg5; have HX5 := hid hx5; have HT5 := hid (HTl.out w5 b5); obtain ⟨x5, _, _, _⟩ := hx5.cells; have HB5 := hid hx5.lt; clear ho5 hg5 hx5)
                  | (at_builtin; refine append_ps rfl (.tmp 101) (.tmp 104) rfl (w3.heap.size + 1) (.slice bo5 (i + 1) c5) (i + 1) (l.take i ++ [(⟨p, q⟩ : Spn)]) rfl HO5.out.row HO5.out.rg (ao.map (·.add (i * 2))) 0 (cap - i) (l.drop i) rfl HT5.out h17 HB5.out ?_; intro bo6 c6 w6 ho6 hg6; have HO6 := hid ho6; have HG6 := hid hg6; obtain ⟨hx6, b6⟩ := after_row HX5.out HO5.out b5 hg6 hs3; have HX6 := hid hx6; clear ho6 hg6 hx6)
                  | (go_at_call 14; with_reducible refine (cB _ _ _ _ HO6.out.ps).mono ?_; rintro e w7 ⟨rfl, hb7⟩; have b7 := next b6 hb7; have HO7 := hid (HO6.out.below hb7); have HX7 := hid (HX6.out.kept hb7); clear hb7)
                  | (go_at_call 17; with_reducible refine (cR _ _ _ _ HO7.out.ps).mono ?_; rintro e w8 ⟨rfl, hb8⟩; have b8 := next b7 hb8; obtain ⟨_, x8, _, _⟩ := (HX7.out.kept hb8).cells; clear hb8))
                go_ret
                exact ⟨rfl, b8⟩
    · rw [(nd_f hx).2, (nd_f hx).1] at c1
      have c3' := fun bo m c w' (h1 : Ps w' bo m c g) h2 => c3 bo m c w' g 0 h1 h2
      generalize bsN g 0 = u at *
      generalize bsB g 0 = is at *
      obtain ⟨up, uz⟩ := u
      simp only at c3'
      clear hr hg e1 e2 h hc hroom c3 hx
      go_enter Try.func6, Try.ntmps6
      go_wp2_with (first
        | (go_at_call 9; with_reducible refine (smallP_any _).mono ?_; rintro e w1 ⟨rfl, hb1⟩)
        | (go_at_call 12; with_reducible refine (c2 _ hb1).mono ?_; rintro e w2 ⟨bo, m, c, rfl, ho2, hb2⟩; have b2 := next hb1 hb2; have hcc := ho2.cap_le)
        | (go_at_call 10; with_reducible refine (c1 _).mono ?_; rintro e w3 ⟨rfl, rfl⟩)
        | (go_at_call 19; with_reducible refine (c3' _ _ _ _ ho2.ps hcc.2).mono ?_; rintro e w3 ⟨rfl, hb3⟩; have b3 := next b2 hb3))
      have b4 := Hal.out w3 (.cells #[.int .i64 up, .int .i64 uz] 34) b3
      clear ho2 hb1 hb2 b2 hb3 b3 c1 c2 c3'
      go_loopw [16] (fun s16 wr => s16 = .int .i64 0 ∧ w3.alloc (.cells #[.int .i64 up, .int .i64 uz] 34) = wr) (fun _ _ => 0)
      case atStart => exact ⟨rfl, rfl⟩
      case round =>
        obtain ⟨rfl, rfl⟩ := hrel
        by_cases hm : 0 < m
        · have hm' : (0 : Int) < (m : Int) := by omega
          go_wp2
          go_ret
          exact ⟨rfl, b4⟩
        · obtain rfl : m = 0 := by omega
          go_wp2
          go_ret
          exact ⟨rfl, b4⟩
  · obtain ⟨e1, e2⟩ := gp_f hr
    have c2' : ∀ w', Below w.heap.size w w' → Calls Try.prog 12 #[.int .i64 f, .int .i64 t, .slice ao n cap] w' fun e w'' => ∃ bo c, e = .returned (.tuple #[.slice bo 0 c, .int .i64 1]) ∧ OwP w'.heap.size w'' bo 0 c [] ∧ Below w'.heap.size w' w'' := fun w' hb => (c2 w' hb).mono (by
      rintro e w'' ⟨bo, m, c, rfl, ho, hb'⟩
      rw [e1] at ho
      obtain rfl : 0 = m := ho.len
      rw [e2]
      exact ⟨bo, c, rfl, ho, hb'⟩)
    generalize ndN x = q at *
    generalize ndE x = qe at *
    have c3' := fun bo m c w' (h1 : Ps w' bo m c []) h2 => c3 bo m c w' [] q h1 h2
    generalize bsN [] q = u at *
    generalize bsB [] q = is at *
    obtain ⟨up, uz⟩ := u
    simp only at c3'
    clear hr e1 e2 h hc hroom c3 c2
    go_enter Try.func6, Try.ntmps6
    go_wp2_with (first
      | (go_at_call 9; with_reducible refine (smallP_any _).mono ?_; rintro e w1 ⟨rfl, hb1⟩)
      | (go_at_call 12; with_reducible refine (c2' _ hb1).mono ?_; rintro e w2 ⟨bo, c, rfl, ho2, hb2⟩; have b2 := next hb1 hb2; have hcc := ho2.cap_le)
      | (go_at_call 10; with_reducible refine (c1 _).mono ?_; rintro e w3 ⟨rfl, rfl⟩)
      | (go_at_call 19; with_reducible refine (c3' _ _ _ _ ho2.ps hcc.2).mono ?_; rintro e w3 ⟨rfl, hb3⟩; have b3 := next b2 hb3))
    have b4 := Hal.out w3 (.cells #[.int .i64 up, .int .i64 uz] 34) b3
    clear ho2 hb1 hb2 b2 hb3 b3 c1 c2' c3'
    go_loopw [16] (fun s16 wr => s16 = .int .i64 0 ∧ w3.alloc (.cells #[.int .i64 up, .int .i64 uz] 34) = wr) (fun _ _ => 0)
    case atStart => exact ⟨rfl, rfl⟩
    case round =>
      obtain ⟨rfl, rfl⟩ := hrel
      go_wp2
      go_ret
      exact ⟨rfl, b4⟩
end Go.Proofs.Ytjmhgcopaphdiaa
