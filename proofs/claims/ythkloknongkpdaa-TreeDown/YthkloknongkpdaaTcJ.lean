/- tree.From by its contract. -/
import Derived.Test.YthkloknongkpdaaTcB
import Derived.Test.YthkloknongkpdaaRefTreC
namespace Go.Proofs.Ythkloknongkpdaa
set_option maxRecDepth 100000
open Go.RowKit
set_option linter.unusedVariables false
set_option linter.unusedSimpArgs false
set_option maxRecDepth 100000

/-- A slice of extents in a block of its own (a variable that a closure catches). -/
def BxS (w : World) (b : Nat) (v : Value) : Prop := w.heap[b]? = some (.cells #[v] 23 (0, 0))
theorem BxS.lt {w : World} {b : Nat} {v : Value} (h : BxS w b v) : b < w.heap.size := (Array.getElem?_eq_some_iff.1 h).1
theorem BxS.kept {w w' : World} {b : Nat} {v : Value} (h : BxS w b v) (hb : Below w.heap.size w w') : BxS w' b v := (hb.block b h.lt).trans h
theorem BxS.off {F : Nat → Prop} {w w' : World} {b : Nat} {v : Value} (h : BxS w b v) (ho : Off F w w') (hn : ¬ F b) : BxS w' b v := (ho.block b h.lt hn).trans h
theorem BxS.cells {w : World} {b : Nat} {v : Value} (h : BxS w b v) : w.cell? ⟨b, 0, none⟩ = some v ∧ w.frozen? ⟨b, 0, none⟩ = false := by
  refine ⟨?_, frozen_of_row w b 0 _ 23 h⟩
  unfold BxS at h
  simp [World.cell?, h]
theorem bxS_new (w : World) (v : Value) : BxS (w.alloc (.cells #[v] 23)) w.heap.size v := heap_alloc_new w _
theorem BxS.set {w : World} {b : Nat} {v : Value} (h : BxS w b v) (x : Value) : BxS (w.setCell ⟨b, 0, none⟩ x) b x := heap_setCell_same w b 0 _ 23 x h
/-- Is there a last one, of that use? -/
def bhB (L : List Blk) (u : Int) : Bool := decide (0 < L.length ∧ (ba L (L.length - 1)).ix = u)
theorem behind_any (u : Int) (lb : Nat) (bo : Option Addr) (m c : Nat) (L : List Blk) (w : World) (hx : w.cell? ⟨lb, 0, none⟩ = some (.slice bo m c)) (h : Bs w bo m c L) (hm : m ≤ 9223372036854775807) :
    Calls Try.prog 28 #[.int .i64 u, .pointer (some ⟨lb, 0, none⟩)] w fun e w' => e = .returned (.bool (bhB L u)) ∧ w = w' := by
  have hl := h.len
  by_cases h0 : m = 0
  · have e : bhB L u = false := decide_eq_false (by omega)
    rw [e]
    subst h0
    clear h
    go_enter Try.func28, Try.ntmps28
    go_wp2
    go_ret
    exact ⟨rfl, rfl⟩
  · obtain ⟨b, o, rfl, _, _⟩ := h.here (by omega)
    obtain ⟨m1, hm1⟩ : ∃ m1, m1 + 1 = m := ⟨m - 1, by omega⟩
    obtain ⟨_, _, c2⟩ := h.at (Below.refl _ _) (i := m1) (by omega)
    have HE : Hid (bhB L u = ((ba L m1).ix == u)) := hid (by
      unfold bhB
      rw [hl, show m - 1 = m1 by omega]
      by_cases c : (ba L m1).ix = u
      · rw [decide_eq_true ⟨by omega, c⟩]; simp [c]
      · rw [decide_eq_false (fun e => c e.2)]; simp [c])
    have x1 : IntKind.i64.wrap ((m : Int) - 1) = (m1 : Int) := by rw [IntWalk.i64_in _ ⟨by omega, by omega⟩]; omega
    have hmp : (0 : Int) < (m : Int) := by omega
    have hmp' : 0 < m := by omega
    have hmi : (m1 : Int) < (m : Int) := by omega
    generalize (ba L m1).ix = X at *
    clear h hm1
    go_enter Try.func28, Try.ntmps28
    go_wp2
    go_ret
    exact ⟨ret_bool HE.out.symm, rfl⟩
theorem bhX_last {ks : List Int} {k : Nat} (h : ∀ j, j < k → MayX ks j) : bhB (fxK ks k) 0 = decide (0 < k ∧ ka ks (k - 1) = -1) ∧ bhB (fxK ks k) 2 = decide (0 < k ∧ (ka ks (k - 1) = 6 ∨ ka ks (k - 1) = 7)) := by
  rcases (pfx_all h).nil with rfl | ⟨l, x, e, hx⟩
  · exact ⟨rfl, rfl⟩
  · have hk : 0 < k := by
      refine Nat.pos_of_ne_zero fun c => ?_
      subst c
      simp [fxK] at e
    have e1 : ba (fxK ks k) ((fxK ks k).length - 1) = x := by rw [e]; simp [ba, List.getD]
    have e2 : 0 < (fxK ks k).length := by rw [e]; simp
    unfold bhB
    rw [e1, hx]
    constructor
    · by_cases c : ka ks (k - 1) = -1
      · rw [if_pos c, decide_eq_true ⟨e2, rfl⟩, decide_eq_true ⟨hk, c⟩]
      · rw [if_neg c, decide_eq_false (fun q => by have := q.2; split at this <;> omega), decide_eq_false (fun q => c q.2)]
    · by_cases c : ka ks (k - 1) = -1
      · rw [if_pos c, decide_eq_false (fun q => by have := q.2; omega), decide_eq_false (fun q => by have := q.2; omega)]
      · rw [if_neg c]
        by_cases d : ka ks (k - 1) = 6 ∨ ka ks (k - 1) = 7
        · rw [if_pos d, decide_eq_true ⟨e2, rfl⟩, decide_eq_true ⟨hk, d⟩]
        · rw [if_neg d, decide_eq_false (fun q => by have := q.2; omega), decide_eq_false (fun q => d q.2)]
set_option maxHeartbeats 4000000 in
theorem tfrom_own (ao : Option Addr) (n cap : Nat) (ks : List Int) (w : World) (h : Sl .i64 w ao n cap ks) (hn : n ≤ 9223372036854775807) :
    Calls Try.prog 10 #[.slice ao n cap] w fun e w' => ∃ bo m c, e = .returned (.tuple #[.slice bo m c, .bool (fxB ks)]) ∧ OwX w.heap.size w' bo m c (fxL ks) ∧ Below w.heap.size w w' := by
  have hl := h.len
  by_cases hn64 : 64 < n
  · obtain ⟨e1, e2⟩ := fx_f (ks := ks) (fun c => by have := c.1; omega)
    rw [e1, e2]
    have hni : 64 < (n : Int) := by omega
    clear h e1 e2
    go_enter Try.func10, Try.ntmps10
    go_wp2
    go_ret2
    exact ⟨none, 0, 0, rfl, owX_nil _ _, Below.refl _ _⟩
  · have hni : ¬ (64 < (n : Int)) := by omega
    have HFA : Hid (∀ w', Below w.heap.size w w' → ∀ k, k < n → ¬ MayX ks k → ∃ bo m c, Ending.returned (.tuple #[.slice none 0 0, .bool false]) = .returned (.tuple #[.slice bo m c, .bool (fxB ks)]) ∧ OwX w.heap.size w' bo m c (fxL ks) ∧ Below w.heap.size w w') := hid (fun w' hb k hk hm => by
      obtain ⟨e1, e2⟩ := fx_f (ks := ks) (fun c => hm (c.2 k (by omega)))
      rw [e1, e2]
      exact ⟨none, 0, 0, rfl, owX_nil _ _, hb⟩)
    have HX0 := hid (bxS_new w (.slice none 0 0))
    have HB0 : Hid (Below w.heap.size w (w.alloc (.cells #[.slice none 0 0] 23))) := hid ((Below.refl _ _).alloc (Nat.le_refl _) _)
    have hmf : ∀ (fn : Fn) (first cap : Array Value) (w : World), (Instr.makeFunc fn first cap).run Try.prog w = .ok (.func fn first cap) w := fun _ _ _ _ => rfl
    go_enter Try.func10, Try.ntmps10
    go_wp2
    go_loopw [14] (fun s14 wr => ∃ (k : Nat) (bo : Option Addr) (m c : Nat), k ≤ n ∧ s14 = .int .i64 k ∧ Hid (∀ j, j < k → MayX ks j) ∧ m ≤ k ∧ Hid (BxS wr w.heap.size (.slice bo m c)) ∧ Hid (OwX (w.heap.size + 1) wr bo m c (fxK ks k)) ∧ Below w.heap.size w wr) (fun s14 _ => n - (intOf s14).toNat)
    case atStart => exact ⟨0, none, 0, 0, Nat.zero_le _, rfl, hid (fun j hj => absurd hj (by omega)), Nat.le_refl _, HX0, hid (owX_nil _ _), HB0.out⟩
    case round =>
      obtain ⟨k, bo, m, c, hk, rfl, HMY, hm, HX, HO, hb⟩ := hrel
      clear HX0 HB0
      obtain ⟨b0, f0⟩ := HX.out.cells
      have hxl := HX.out.lt
      by_cases hlt : k < n
      · obtain ⟨b, o, rfl, _, _⟩ := h.here (by omega)
        have c0 := h.kat' hb hlt
        have hki : (k : Int) < (n : Int) := by omega
        have HPF := hid (pfx_all (ks := ks) (k := k) HMY.out)
        obtain ⟨hb0, hb2⟩ := bhX_last HMY.out
        have HMN : Hid (MayX ks k → ∀ j, j < k + 1 → MayX ks j) := hid (fun hm j hj => by
          by_cases c : j < k
          · exact HMY.out j c
          · obtain rfl : j = k := by omega
            exact hm)
        have cB0 := behind_any 0 w.heap.size bo m c (fxK ks k) wr b0 HO.out.bs (by omega)
        have cB2 := behind_any 2 w.heap.size bo m c (fxK ks k) wr b0 HO.out.bs (by omega)
        rw [hb0] at cB0
        rw [hb2] at cB2
        obtain ⟨x, hx⟩ : ∃ x, ka ks k = x := ⟨_, rfl⟩
        have HKX := hid hx
        rw [hx] at c0
        have HJ : Hid (JoinX ks k ↔ 0 < k ∧ ((x = 7 ∧ (ka ks (k - 1) = 6 ∨ ka ks (k - 1) = 7)) ∨ (x = -1 ∧ ka ks (k - 1) = -1))) := hid (by unfold JoinX; rw [hx])
        have HMX : Hid (MayX ks k ↔ -1 ≤ x ∧ x ≤ 7 ∧ (x = 7 → JoinX ks k)) := hid (by unfold MayX; rw [hx])
        have HNEW : Hid (¬ JoinX ks k → fxK ks (k + 1) = fxK ks k ++ [⟨k, 1, usX x⟩]) := hid (fun c => by rw [fx_new c, hx])
        clear hx hb0 hb2 h HMY
        by_cases hj : JoinX ks k
        · -- the last one is made longer
          have hmay : MayX ks k := HMX.out.2 ⟨by have := HJ.out.1 hj; omega, by have := HJ.out.1 hj; omega, fun _ => hj⟩
          obtain ⟨l', y, hL, hyx⟩ : ∃ l' y, fxK ks k = l' ++ [y] ∧ True := by
            rcases HPF.out.nil with e | ⟨l', y, e, _⟩
            · have := hj.1; omega
            · exact ⟨l', y, e, trivial⟩
          have HO2 := HO.out
          rw [hL] at HO2
          obtain ⟨hml, g, rfl, hg, s0, sf⟩ := HO2.lastAt
          have hlay := HPF.out.lay
          rw [hL] at hlay
          have hat := layX_at hlay (i := l'.length) (by simp)
          have hby : ba (l' ++ [y]) l'.length = y := by simp [ba, List.getD]
          rw [hby] at hat
          obtain ⟨m1, hm1⟩ : ∃ m1, m1 = l'.length := ⟨_, rfl⟩
          have x1 : IntKind.i64.wrap ((m : Int) - 1) = (m1 : Int) := by rw [IntWalk.i64_in _ ⟨by omega, by omega⟩]; omega
          have hmi : (m1 : Int) < (m : Int) := by omega
          have HL2 := hid (HO2.last (z := y.sz + 1) (by unfold Rg; omega))
          have HNX : Hid (fxK ks (k + 1) = l' ++ [⟨y.pos, y.sz + 1, y.ix⟩]) := hid (by rw [fx_join hj, hL, more_snoc])
          have HXN := hid (HX.out.off ((Off.refl (fun j => j = g) wr).setCell ⟨g, l'.length * 3 + 1, none⟩ (.int .i64 (y.sz + 1)) rfl) (by omega))
          have HBN : Hid (Below w.heap.size w (wr.setCell ⟨g, l'.length * 3 + 1, none⟩ (.int .i64 (y.sz + 1)))) := hid (hb.setCell (by show w.heap.size ≤ g; omega) _)
          rw [← hm1] at s0 sf HL2 HXN HBN
          obtain ⟨Z1, hZ1⟩ : ∃ Z, y.sz + 1 = Z := ⟨_, rfl⟩
          have y1 : IntKind.i64.wrap (y.sz + 1) = Z1 := by rw [IntWalk.i64_in _ ⟨by omega, by omega⟩]; exact hZ1
          rw [hZ1] at HL2 HXN HBN HNX
          have HMY2 := hid (HMN.out hmay)
          have hjx := HJ.out.1 hj
          clear hZ1
          generalize y.sz = Z0 at *
          have hcases : (x = -1 ∧ decide (0 < k ∧ ka ks (k - 1) = -1) = true) ∨ (x = 7 ∧ decide (0 < k ∧ (ka ks (k - 1) = 6 ∨ ka ks (k - 1) = 7)) = true) := by
            obtain ⟨q0, q1 | q1⟩ := hjx
            · exact Or.inr ⟨q1.1, decide_eq_true ⟨q0, q1.2⟩⟩
            · exact Or.inl ⟨q1.1, decide_eq_true ⟨q0, q1.2⟩⟩
          clear hj hmay hL hyx HO HO2 HPF hlay hat hby hjx HJ HMX HNEW HMN HFA HX HKX
          rcases hcases with ⟨hx1, hB⟩ | ⟨hx7, hB⟩
          · rw [hB] at cB0
            have d1 : (x == -1) = true := by simpa using hx1
            clear hx1 hB hml hm1 cB2
            go_wp2_with (first
              | (go_at_call 28; with_reducible refine cB0.mono ?_; rintro e w1 ⟨rfl, rfl⟩))
            go_roundw
            case rel => exact ⟨k + 1, _, m, c, by omega, by go_num, HMY2, by omega, HXN, hid (by rw [HNX.out]; exact HL2.out), HBN.out⟩
            case measure => simp [intOf]; omega
          · rw [hB] at cB2
            have d1 : (x == -1) = false := by simp; omega
            have d7 : (x == 7) = true := by simpa using hx7
            clear hx7 hB hml hm1 cB0
            go_wp2_with (first
              | (go_at_call 28; with_reducible refine cB2.mono ?_; rintro e w1 ⟨rfl, rfl⟩))
            go_roundw
            case rel => exact ⟨k + 1, _, m, c, by omega, by go_num, HMY2, by omega, HXN, hid (by rw [HNX.out]; exact HL2.out), HBN.out⟩
            case measure => simp [intOf]; omega
        · by_cases hmay : MayX ks k
          · have hmx := HMX.out.1 hmay
            have hx7 : ¬ x = 7 := fun c => hj (hmx.2.2 c)
            have HMY2 := hid (HMN.out hmay)
            have HNX0 := HNEW.out hj
            have h24 : (m + 1) * 24 ≤ 140737488355328 := by omega
            have hB0 : x = -1 → decide (0 < k ∧ ka ks (k - 1) = -1) = false := fun c => decide_eq_false (fun q => hj (HJ.out.2 ⟨q.1, Or.inr ⟨c, q.2⟩⟩))
            have d7 : (x == 7) = false := by simpa using hx7
            have HAF : Hid (∀ (U : Int), 0 ≤ U → U ≤ 2 → Bs (wr.alloc (.cells #[.int .i64 (k : Int), .int .i64 1, .int .i64 U] 42)) (some ⟨wr.heap.size, 0, none⟩) 1 1 [⟨k, 1, U⟩] ∧ OwX (w.heap.size + 1) (wr.alloc (.cells #[.int .i64 (k : Int), .int .i64 1, .int .i64 U] 42)) bo m c (fxK ks k) ∧ w.heap.size + 1 ≤ (wr.alloc (.cells #[.int .i64 (k : Int), .int .i64 1, .int .i64 U] 42)).heap.size ∧ ∀ w2 bo2 c2, OwX (w.heap.size + 1) w2 bo2 (m + 1) c2 (fxK ks k ++ [⟨k, 1, U⟩]) → (wr.alloc (.cells #[.int .i64 (k : Int), .int .i64 1, .int .i64 U] 42)).grownBy w2 (Value.slice bo m c).ownBlock → ((∃ v, w2.cell? ⟨w.heap.size, 0, none⟩ = some v) ∧ w2.frozen? ⟨w.heap.size, 0, none⟩ = false) ∧ BxS (w2.setCell ⟨w.heap.size, 0, none⟩ (.slice bo2 (m + 1) c2)) w.heap.size (.slice bo2 (m + 1) c2) ∧ OwX (w.heap.size + 1) (w2.setCell ⟨w.heap.size, 0, none⟩ (.slice bo2 (m + 1) c2)) bo2 (m + 1) c2 (fxK ks k ++ [⟨k, 1, U⟩]) ∧ Below w.heap.size w (w2.setCell ⟨w.heap.size, 0, none⟩ (.slice bo2 (m + 1) c2))) := hid (fun U u0 u2 => by
              have hrg : RgB ⟨k, 1, U⟩ := ⟨by unfold Rg; show _ ≤ (k : Int) ∧ (k : Int) ≤ _; omega, by unfold Rg; show _ ≤ (1 : Int) ∧ (1 : Int) ≤ _; omega, by unfold Rg; show _ ≤ U ∧ U ≤ _; omega⟩
              have hA : Below wr.heap.size wr (wr.alloc (.cells #[.int .i64 (k : Int), .int .i64 1, .int .i64 U] 42)) := (Below.refl _ _).alloc (Nat.le_refl _) _
              have hoA := HO.out.below hA
              refine ⟨bs_ext wr wr.heap.size ⟨k, 1, U⟩ rfl hrg, hoA, by simp; omega, fun w2 bo2 c2 ho2 hg2 => ?_⟩
              have hof : Off (fun j => w.heap.size + 1 ≤ j) (wr.alloc (.cells #[.int .i64 (k : Int), .int .i64 1, .int .i64 U] 42)) w2 := Off.of_grown hg2 (fun j hj => Or.inl (hoA.row.lt j hj).1)
              have hx2 := (HX.out.kept hA).off hof (by omega)
              obtain ⟨g0, g1⟩ := hx2.cells
              refine ⟨⟨⟨_, g0⟩, g1⟩, hx2.set _, ho2.off ((Off.refl (fun j => j = w.heap.size) w2).setCell ⟨w.heap.size, 0, none⟩ _ rfl) (fun a ea hf => by subst ea; have := (ho2.row.lt a.block rfl).1; omega), ?_⟩
              have hbA := next hb hA
              exact ((hbA.trans (hof.below (B := w.heap.size) (fun j hj => by omega) hbA.size)).setCell (by show w.heap.size ≤ w.heap.size; omega) _))
            clear hj hmay HO HPF HJ HMX HNEW HMN HFA HX HKX hx7 cB2
            by_cases hx1 : x = -1
            · rw [hB0 hx1] at cB0
              have d1 : (x == -1) = true := by simpa using hx1
              have hus : usX x = 0 := if_pos hx1
              obtain ⟨g1, g2, g3, g4⟩ := HAF.out 0 (by omega) (by omega)
              have G1 := hid g1
              have G2 := hid g2
              have G4 := hid g4
              have HNX : Hid (fxK ks (k + 1) = fxK ks k ++ [⟨k, 1, 0⟩]) := hid (by rw [HNX0, hus])
              clear g1 g2 g4 HAF HNX0 hus hmx hB0 hx1
              go_wp2_with (first
                | (go_at_call 28; with_reducible refine cB0.mono ?_; rintro e w1 ⟨rfl, rfl⟩)
                | (at_builtin; refine append_xs rfl (.tmp 45) (.tmp 48) rfl (w.heap.size + 1) _ m _ rfl G2.out.row G2.out.rg (some ⟨wr.heap.size, 0, none⟩) 1 1 [⟨k, 1, 0⟩] rfl G1.out h24 g3 ?_; intro bo2 c2 w2 ho2 hg2; obtain ⟨⟨⟨v0, m0⟩, m1⟩, k1, k2, k3⟩ := G4.out w2 bo2 c2 ho2 hg2; have K1 := hid k1; have K2 := hid k2; have K3 := hid k3; clear k1 k2 k3 ho2 hg2 G1 G2 G4))
              go_roundw
              case rel => exact ⟨k + 1, bo2, m + 1, c2, by omega, by go_num, HMY2, by omega, K1, hid (by rw [HNX.out]; exact K2.out), K3.out⟩
              case measure => simp [intOf]; omega
            · have d1 : (x == -1) = false := by simpa using hx1
              by_cases hx6 : x = 6
              · have d6 : (x == 6) = true := by simpa using hx6
                have hus : usX x = 2 := by unfold usX; rw [if_neg hx1, if_pos hx6]
                obtain ⟨g1, g2, g3, g4⟩ := HAF.out 2 (by omega) (by omega)
                have G1 := hid g1
                have G2 := hid g2
                have G4 := hid g4
                have HNX : Hid (fxK ks (k + 1) = fxK ks k ++ [⟨k, 1, 2⟩]) := hid (by rw [HNX0, hus])
                clear g1 g2 g4 HAF HNX0 hus hmx hB0 hx1 hx6
                go_wp2_with (first
                  | (go_at_call 28; with_reducible refine cB0.mono ?_; rintro e w1 ⟨rfl, rfl⟩)
                  | (at_builtin; refine append_xs rfl (.tmp 53) (.tmp 56) rfl (w.heap.size + 1) _ m _ rfl G2.out.row G2.out.rg (some ⟨wr.heap.size, 0, none⟩) 1 1 [⟨k, 1, 2⟩] rfl G1.out h24 g3 ?_; intro bo2 c2 w2 ho2 hg2; obtain ⟨⟨⟨v0, m0⟩, m1⟩, k1, k2, k3⟩ := G4.out w2 bo2 c2 ho2 hg2; have K1 := hid k1; have K2 := hid k2; have K3 := hid k3; clear k1 k2 k3 ho2 hg2 G1 G2 G4))
                go_roundw
                case rel => exact ⟨k + 1, bo2, m + 1, c2, by omega, by go_num, HMY2, by omega, K1, hid (by rw [HNX.out]; exact K2.out), K3.out⟩
                case measure => simp [intOf]; omega
              · have d6 : (x == 6) = false := by simpa using hx6
                have hus : usX x = 1 := by unfold usX; rw [if_neg hx1, if_neg hx6]
                have e0 : (0 : Int) ≤ x := by omega
                have hx7' : ¬ x = 7 := by simpa using d7
                have e1 : x < 6 := by omega
                obtain ⟨g1, g2, g3, g4⟩ := HAF.out 1 (by omega) (by omega)
                have G1 := hid g1
                have G2 := hid g2
                have G4 := hid g4
                have HNX : Hid (fxK ks (k + 1) = fxK ks k ++ [⟨k, 1, 1⟩]) := hid (by rw [HNX0, hus])
                clear g1 g2 g4 HAF HNX0 hus hmx hB0 hx1 hx6 hx7'
                go_wp2_with (first
                  | (go_at_call 28; with_reducible refine cB0.mono ?_; rintro e w1 ⟨rfl, rfl⟩)
                  | (at_builtin; refine append_xs rfl (.tmp 65) (.tmp 68) rfl (w.heap.size + 1) _ m _ rfl G2.out.row G2.out.rg (some ⟨wr.heap.size, 0, none⟩) 1 1 [⟨k, 1, 1⟩] rfl G1.out h24 g3 ?_; intro bo2 c2 w2 ho2 hg2; obtain ⟨⟨⟨v0, m0⟩, m1⟩, k1, k2, k3⟩ := G4.out w2 bo2 c2 ho2 hg2; have K1 := hid k1; have K2 := hid k2; have K3 := hid k3; clear k1 k2 k3 ho2 hg2 G1 G2 G4))
                go_roundw
                case rel => exact ⟨k + 1, bo2, m + 1, c2, by omega, by go_num, HMY2, by omega, K1, hid (by rw [HNX.out]; exact K2.out), K3.out⟩
                case measure => simp [intOf]; omega
          · have hno : x < -1 ∨ 7 < x ∨ x = 7 := by
              refine Decidable.byContradiction fun c => hmay (HMX.out.2 ⟨by omega, by omega, fun e => ?_⟩)
              omega
            have HN := hid hmay
            have d1 : (x == -1) = false := by simp; omega
            have d6 : (x == 6) = false := by simp; omega
            have hB2 : x = 7 → decide (0 < k ∧ (ka ks (k - 1) = 6 ∨ ka ks (k - 1) = 7)) = false := fun c => decide_eq_false (fun q => hj (HJ.out.2 ⟨q.1, Or.inl ⟨c, q.2⟩⟩))
            clear hj hmay HO HPF HJ HMX HNEW HMN HX HKX cB0
            by_cases h7 : x = 7
            · rw [hB2 h7] at cB2
              have d7 : (x == 7) = true := by simpa using h7
              have e0 : ¬ (x < 0) := by omega
              have e1 : ¬ (x < 6) := by omega
              have e2 : (0 : Int) ≤ x := by omega
              clear hno hB2 h7
              go_wp2_with (first
                | (go_at_call 28; with_reducible refine cB2.mono ?_; rintro e w1 ⟨rfl, rfl⟩))
              go_ret2
              exact HFA.out _ hb k hlt HN.out
            · have d7 : (x == 7) = false := by simpa using h7
              clear cB2 hB2
              by_cases hneg : 0 ≤ x
              · have e1 : ¬ (x < 6) := by omega
                clear hno h7
                go_wp2
                go_ret2
                exact HFA.out _ hb k hlt HN.out
              · clear hno h7
                go_wp2
                go_ret2
                exact HFA.out _ hb k hlt HN.out
      · obtain rfl : k = n := by omega
        have hkz : ¬ ((k : Int) < (k : Int)) := by omega
        have HFN : Hid (fxL ks = fxK ks k ∧ fxB ks = true) := hid (by
          have hok : FxOk ks := ⟨by omega, fun j hj => HMY.out j (by omega)⟩
          obtain ⟨e1, e2⟩ := fx_t hok
          rw [hl] at e1
          exact ⟨e1, e2⟩)
        clear h HX
        go_wp2
        go_ret2
        rw [HFN.out.1, HFN.out.2]
        exact ⟨bo, m, c, rfl, HO.out.mono (by omega), hb⟩
theorem tfrom_sl (ao : Option Addr) (n cap : Nat) (ks : List Int) (w : World) (h : Sl .i64 w ao n cap ks) (hn : n ≤ 9223372036854775807) :
    Calls Try.prog 10 #[.slice ao n cap] w fun e w' => ∃ bo m c, e = .returned (.tuple #[.slice bo m c, .bool (fxB ks)]) ∧ Bs w' bo m c (fxL ks) ∧ Below w.heap.size w w' :=
  (tfrom_own ao n cap ks w h hn).mono fun e w' ⟨bo, m, c, h1, h2, h3⟩ => ⟨bo, m, c, h1, h2.bs, h3⟩
end Go.Proofs.Ythkloknongkpdaa
