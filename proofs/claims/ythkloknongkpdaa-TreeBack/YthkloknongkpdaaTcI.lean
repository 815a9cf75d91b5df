/- tree.Find by its contract. -/
import Derived.Test.YthkloknongkpdaaTcG
import Derived.Test.YthkloknongkpdaaTcH
import Derived.Test.YthkloknongkpdaaRefTreK
import Derived.Test.YthkloknongkpdaaDownM
import Derived.Deep.LoopGhost
namespace Go.Proofs.Ythkloknongkpdaa
set_option maxRecDepth 100000
open Go.RowKit
set_option linter.unusedVariables false
set_option linter.unusedSimpArgs false
set_option maxRecDepth 100000

/-- What a tree's words tell of a node. -/
theorem nd_tree {P : Int} {l : List Blk} {R : Nat} (hR : RightX P l) (hrn : (trL l).length ≤ R) {j i : Nat} (hj : j ≤ hgt l.length) (hi : i < lvC l.length j) :
    ndLf (ofL (trW R l)) (nmN l.length j + i) = (j == 0) ∧ ndK (ofL (trW R l)) (nmN l.length j + i) = (psS l j i).length ∧ ndPs (ofL (trW R l)) (nmN l.length j + i) (psS l j i).length = psS l j i := by
  have hlen : l.length ≤ 343 := by have := hR.n64; omega
  obtain ⟨h1, h2⟩ := tr_at hlen hj hi
  obtain ⟨num, hnum⟩ : ∃ num, nmN l.length j + i = num := ⟨_, rfl⟩
  rw [hnum] at h1 h2 ⊢
  have key : ∀ q, q < 16 → getN (ofL (trW R l)) ((16 * num + q : Nat) : Int) = (nodL (j == 0) (psN l j i)).getD q 0 := fun q hq => by
    rw [(get_of (tree_fits hR R) (16 * num + q) (by rw [trW_len hrn]; omega)).1, trW_node h1 hq, h2]
    rfl
  have hl7 := psN_le l j i
  have hpl : (psS l j i).length = (psN l j i).length := by simp [psS]
  have k0 := key 0 (by omega)
  rw [Nat.add_zero, nwL_head] at k0
  refine ⟨?_, ?_, ?_⟩
  · unfold ndLf
    rw [k0]
    by_cases c : j = 0
    · subst c; simp
    · simp [c]
  · unfold ndK
    rw [k0, hpl]
    split <;> omega
  · refine ext_pa (by simp [ndPs]) fun k hk => ?_
    have hk' : k < (psS l j i).length := by simpa [ndPs] using hk
    rw [ndPs_at hk']
    have hk2 : k < (psN l j i).length := by omega
    obtain ⟨e1, e2⟩ := nwL_pair (j == 0) (psN l j i) hk2
    have e3 : pa (psS l j i) k = spP ((psN l j i).getD k (0, 0)) := by
      simp only [pa, psS, List.getD, List.getElem?_map, List.getElem?_eq_getElem hk2, Option.map_some, Option.getD_some]
    rw [e3]
    unfold ndP
    rw [key (1 + 2 * k) (by omega), key (2 + 2 * k) (by omega), e1, e2]
    rfl
theorem field_snd (a b : Int) (W : World) : (Instr.field 68 (.agg #[.int .i64 a, .int .i64 b]) 1).run Try.prog W = .ok (.int .i64 b) W := by
  first
    | rfl
    | (simp [Instr.field, go_sem, Try.underlying68]; done)
    | kernel_rfl
theorem ps_pa {l : List Blk} {j i k : Nat} (hk : k < (psS l j i).length) : pa (psS l j i) k = spP ((psN l j i).getD k (0, 0)) := by
  have hk2 : k < (psN l j i).length := by simpa [psS] using hk
  simp only [pa, psS, List.getD, List.getElem?_map, List.getElem?_eq_getElem hk2, Option.map_some, Option.getD_some]
/-- The last pair at most a page, on the way down. -/
theorem ls_way {P : Int} {l : List Blk} (h : RightX P l) {p : Int} {e : Nat} (he : e < l.length) (hx : HasX (ba l e) p) (j : Nat) : lsK (psS l j (wyN e j)) p (psS l j (wyN e j)).length = pa (psS l j (wyN e j)) (wyK e j) ∧ wyK e j < (psS l j (wyN e j)).length := by
  obtain ⟨h1, h2⟩ := wy_pair he j
  have hpl : (psS l j (wyN e j)).length = (psN l j (wyN e j)).length := by simp [psS]
  refine ⟨lsK_at (fun k hk => ?_) (by omega), by omega⟩
  rw [ps_pa hk]
  exact wy_last h he hx j (by omega)
theorem fd_no {P : Int} {zs : List Int} {p : Int} (h : rxR P zs = false ∨ p < 0 ∨ P ≤ p) : fdX P zs p = Blk.z ∧ fdXB P zs p = false := by
  have hn : fnO (rxL P zs) p = none := by
    by_cases c : RdX P zs
    · rw [(rx_t c).1]
      rcases h with h | h
      · rw [(rx_t c).2] at h; cases h
      · exact fn_out (wtE_0.1 c.2.1).1 h
    · rw [(rx_f c).1]; rfl
  unfold fdX fdXB
  rw [hn]
  exact ⟨rfl, rfl⟩
set_option maxHeartbeats 2000000 in
theorem tfind_no (P : Int) (ao : Option Addr) (n cap : Nat) (zs : List Int) (p : Int) (hp : Rg p) (w : World) (h : Sl .u8 w ao n cap zs) (hby : Bytes zs) (hn : n ≤ 140737488355328) (hno : rxR P zs = false ∨ p < 0 ∨ P ≤ p) :
    Calls Try.prog 23 #[.int .i64 P, .slice ao n cap, .int .i64 p] w fun e w' => e = .returned (.tuple #[.agg #[.int .i64 0, .int .i64 0, .int .i64 0], .bool false]) ∧ Below w.heap.size w w' := by
  have hb0 : Below w.heap.size w ((w.alloc (.cells #[.int .i64 p] 3)).alloc (.cells #[.int .i64 0, .int .i64 0, .int .i64 0] 42)) := ((Below.refl _ _).alloc (Nat.le_refl _) _).alloc (by simp) _
  have HX0 : Hid (BxX ((w.alloc (.cells #[.int .i64 p] 3)).alloc (.cells #[.int .i64 0, .int .i64 0, .int .i64 0] 42)) (w.heap.size + 1) Blk.z) := hid (by have := bxX_new (w.alloc (.cells #[.int .i64 p] 3)) 0 0 0; simpa [Blk.z] using this)
  have HP0 : Hid (((w.alloc (.cells #[.int .i64 p] 3)).alloc (.cells #[.int .i64 0, .int .i64 0, .int .i64 0] 42)).cell? ⟨w.heap.size, 0, none⟩ = some (.int .i64 p)) := hid (by simp)
  have cR := tread_own P ao n cap zs _ (h.below hb0) hby hn
  have HALL : Hid (∀ w1, Below ((w.alloc (.cells #[.int .i64 p] 3)).alloc (.cells #[.int .i64 0, .int .i64 0, .int .i64 0] 42)).heap.size ((w.alloc (.cells #[.int .i64 p] 3)).alloc (.cells #[.int .i64 0, .int .i64 0, .int .i64 0] 42)) w1 → w1.cell? ⟨w.heap.size, 0, none⟩ = some (.int .i64 p) ∧ BxX w1 (w.heap.size + 1) Blk.z ∧ Below w.heap.size w w1) := hid (fun w1 hb1 => ⟨by rw [hb1.cell (World.block_lt_of_cell? _ _ HP0.out)]; exact HP0.out, HX0.out.kept hb1, next hb0 hb1⟩)
  clear h hb0 HX0 HP0
  generalize rxL P zs = L at *
  have hp1 := hp.1
  have hp2 := hp.2
  have hc : rxR P zs = false ∨ (rxR P zs = true ∧ p < 0) ∨ (rxR P zs = true ∧ ¬ p < 0 ∧ P ≤ p) := by
    cases e : rxR P zs with
    | false => exact Or.inl rfl
    | true =>
      rw [e] at hno
      rcases hno with h | h | h
      · cases h
      · exact Or.inr (Or.inl ⟨rfl, h⟩)
      · by_cases c : p < 0
        · exact Or.inr (Or.inl ⟨rfl, c⟩)
        · exact Or.inr (Or.inr ⟨rfl, c, h⟩)
  clear hno
  rcases hc with e | ⟨e, a1⟩ | ⟨e, a1, a2⟩
  · rw [e] at cR
    clear e
    go_enter Try.func23, Try.ntmps23
    go_wp2_with (first
      | (go_at_call 22; with_reducible refine cR.mono ?_; rintro e w1 ⟨bo, m, c, rfl, _, hb1⟩; obtain ⟨k0, k1, k2⟩ := HALL.out w1 hb1; obtain ⟨q0, q1, q2, q3, q4, q5⟩ := k1.cells; simp only [Blk.z] at q0 q1 q2; obtain ⟨s0, s1, s2, _⟩ := (((k1.set0 0).set1 0).set2 0).cells; simp only at s0 s1 s2; have HB := hid k2; clear k1 k2 hb1 HALL))
    refine bodyPost_ret (v := .tuple #[.agg #[.int .i64 0, .int .i64 0, .int .i64 0], .bool false]) (by simp [results, Try.results23, go_sem, s0, s1, s2]) rfl ⟨rfl, ?_⟩
    exact ((HB.out.setCell (by show w.heap.size ≤ w.heap.size + 1; omega) _).setCell (by show w.heap.size ≤ w.heap.size + 1; omega) _).setCell (by show w.heap.size ≤ w.heap.size + 1; omega) _
  · rw [e] at cR
    clear e
    go_enter Try.func23, Try.ntmps23
    go_wp2_with (first
      | (go_at_call 22; with_reducible refine cR.mono ?_; rintro e w1 ⟨bo, m, c, rfl, _, hb1⟩; obtain ⟨k0, k1, k2⟩ := HALL.out w1 hb1; obtain ⟨q0, q1, q2, q3, q4, q5⟩ := k1.cells; simp only [Blk.z] at q0 q1 q2; obtain ⟨s0, s1, s2, _⟩ := (((k1.set0 0).set1 0).set2 0).cells; simp only at s0 s1 s2; have HB := hid k2; clear k1 k2 hb1 HALL))
    refine bodyPost_ret (v := .tuple #[.agg #[.int .i64 0, .int .i64 0, .int .i64 0], .bool false]) (by simp [results, Try.results23, go_sem, s0, s1, s2]) rfl ⟨rfl, ?_⟩
    exact ((HB.out.setCell (by show w.heap.size ≤ w.heap.size + 1; omega) _).setCell (by show w.heap.size ≤ w.heap.size + 1; omega) _).setCell (by show w.heap.size ≤ w.heap.size + 1; omega) _
  · rw [e] at cR
    clear e
    go_enter Try.func23, Try.ntmps23
    go_wp2_with (first
      | (go_at_call 22; with_reducible refine cR.mono ?_; rintro e w1 ⟨bo, m, c, rfl, _, hb1⟩; obtain ⟨k0, k1, k2⟩ := HALL.out w1 hb1; obtain ⟨q0, q1, q2, q3, q4, q5⟩ := k1.cells; simp only [Blk.z] at q0 q1 q2; obtain ⟨s0, s1, s2, _⟩ := (((k1.set0 0).set1 0).set2 0).cells; simp only at s0 s1 s2; have HB := hid k2; clear k1 k2 hb1 HALL))
    refine bodyPost_ret (v := .tuple #[.agg #[.int .i64 0, .int .i64 0, .int .i64 0], .bool false]) (by simp [results, Try.results23, go_sem, s0, s1, s2]) rfl ⟨rfl, ?_⟩
    exact ((HB.out.setCell (by show w.heap.size ≤ w.heap.size + 1; omega) _).setCell (by show w.heap.size ≤ w.heap.size + 1; omega) _).setCell (by show w.heap.size ≤ w.heap.size + 1; omega) _
set_option maxHeartbeats 4000000 in
theorem tfind_yes (P : Int) (ao : Option Addr) (n cap : Nat) (zs : List Int) (p : Int) (hp : Rg p) (w : World) (h : Sl .u8 w ao n cap zs) (hby : Bytes zs) (hn : n ≤ 140737488355328) (hrd : RdX P zs) (p0 : 0 ≤ p) (p1 : p < P) :
    Calls Try.prog 23 #[.int .i64 P, .slice ao n cap, .int .i64 p] w fun e w' => e = .returned (.tuple #[.agg #[.int .i64 (fdX P zs p).pos, .int .i64 (fdX P zs p).sz, .int .i64 (fdX P zs p).ix], .bool (fdXB P zs p)]) ∧ Below w.heap.size w w' := by
  have hl := h.len
  obtain ⟨hR, hroom⟩ := wtE_0.1 hrd.2.1
  have hzs := hrd.2.2
  rw [(wt_ok hR hroom).2] at hzs
  have hrn := (hroom.nodes hR).1
  obtain ⟨e, he, hx⟩ := hR.one p0 p1
  have HFD : Hid (fdX P zs p = ba (dcB zs) e ∧ fdXB P zs p = true) := hid (by
    unfold fdX fdXB
    rw [(rx_t hrd).1, fn_at hR he hx]
    exact ⟨rfl, rfl⟩)
  have h64 := hR.n64
  generalize ((zs.length / 128 : Nat) : Int).toNat = R at *
  obtain ⟨l, hld⟩ : ∃ l, dcB zs = l := ⟨_, rfl⟩
  rw [hld] at hR hzs hrn he hx HFD h64
  have hlen : l.length ≤ 343 := by omega
  have HND : Hid (∀ j, j ≤ hgt l.length → ndLf zs (nmN l.length j + wyN e j) = (j == 0) ∧ ndK zs (nmN l.length j + wyN e j) = (psS l j (wyN e j)).length ∧ ndPs zs (nmN l.length j + wyN e j) (psS l j (wyN e j)).length = psS l j (wyN e j)) := hid (fun j hj => by rw [← hzs]; exact nd_tree hR hrn hj (way_in he j))
  have HLS : Hid (∀ j, lsK (psS l j (wyN e j)) p (psS l j (wyN e j)).length = pa (psS l j (wyN e j)) (wyK e j) ∧ wyK e j < (psS l j (wyN e j)).length) := hid (fun j => ls_way hR he hx j)
  have HDN : Hid (∀ j, j + 1 ≤ hgt l.length → (pa (psS l (j + 1) (wyN e (j + 1))) (wyK e (j + 1))).sz = ((nmN l.length j + wyN e j : Nat) : Int)) := hid (fun j hj => by
    rw [ps_pa (HLS.out (j + 1)).2]
    show ((psN l (j + 1) (wyN e (j + 1))).getD (wyK e (j + 1)) (0, 0)).2 = _
    rw [wy_step he j, way_next he h64 hj])
  have HEN : Hid (pa (psS l 0 (wyN e 0)) (wyK e 0) = ⟨(ba l e).pos, 4 * (ba l e).sz + (ba l e).ix⟩) := hid (by
    rw [ps_pa (HLS.out 0).2, wy_end he]
    rfl)
  have HXT := hid (hR.ext (ba_mem he))
  have HTP := hid (way_top he hlen)
  have HNB : Hid (∀ j, j ≤ hgt l.length → nmN l.length j + wyN e j ≤ 13) := hid (fun j hj => by have h1 := nm_in hlen hj (way_in he j); have h2 := nt_small (n := l.length) (by omega); omega)
  have hR1 : rxR P zs = true := (rx_t hrd).2
  have hb0 : Below w.heap.size w ((w.alloc (.cells #[.int .i64 p] 3)).alloc (.cells #[.int .i64 0, .int .i64 0, .int .i64 0] 42)) := ((Below.refl _ _).alloc (Nat.le_refl _) _).alloc (by simp) _
  have HX0 : Hid (BxX ((w.alloc (.cells #[.int .i64 p] 3)).alloc (.cells #[.int .i64 0, .int .i64 0, .int .i64 0] 42)) (w.heap.size + 1) Blk.z) := hid (by have := bxX_new (w.alloc (.cells #[.int .i64 p] 3)) 0 0 0; simpa [Blk.z] using this)
  have HP0 : Hid (((w.alloc (.cells #[.int .i64 p] 3)).alloc (.cells #[.int .i64 0, .int .i64 0, .int .i64 0] 42)).cell? ⟨w.heap.size, 0, none⟩ = some (.int .i64 p)) := hid (by simp)
  have hs0 : ((w.alloc (.cells #[.int .i64 p] 3)).alloc (.cells #[.int .i64 0, .int .i64 0, .int .i64 0] 42)).heap.size = w.heap.size + 2 := by simp
  have cR := tread_own P ao n cap zs _ (h.below hb0) hby hn
  rw [hR1] at cR
  generalize rxL P zs = L at cR
  obtain ⟨W0, hW0⟩ : ∃ W0, W0 = ((w.alloc (.cells #[.int .i64 p] 3)).alloc (.cells #[.int .i64 0, .int .i64 0, .int .i64 0] 42)) := ⟨_, rfl⟩
  rw [← hW0] at HX0 HP0 hb0 hs0
  have HALL : Hid (∀ w1, Below W0.heap.size W0 w1 → w1.cell? ⟨w.heap.size, 0, none⟩ = some (.int .i64 p) ∧ BxX w1 (w.heap.size + 1) Blk.z ∧ Below w.heap.size w w1 ∧ Sl .u8 w1 ao n cap zs) := hid (fun w1 hb1 => ⟨by rw [hb1.cell (World.block_lt_of_cell? _ _ HP0.out)]; exact HP0.out, HX0.out.kept hb1, next hb0 hb1, h.below (next hb0 hb1)⟩)
  have HW0 := hid hW0
  clear h hb0 HX0 HP0 hld hzs hrd hR hroom hR1
  have a1 : ¬ (p < 0) := by omega
  have a2 : ¬ (P ≤ p) := by omega
  have hfd := field_snd
  have hmf : ∀ (fn : Fn) (first cap : Array Value) (w : World), (Instr.makeFunc fn first cap).run Try.prog w = .ok (.func fn first cap) w := fun _ _ _ _ => rfl
  have cN0 : ∀ w1, Below W0.heap.size W0 w1 → Calls Try.prog 35 #[.slice ao n cap, .int .i64 0] w1 fun e' w' => ∃ bo c, e' = .returned (.agg #[.bool (hgt l.length == 0), .slice bo (psS l (hgt l.length) (wyN e (hgt l.length))).length c]) ∧ OwY w1.heap.size w' bo (psS l (hgt l.length) (wyN e (hgt l.length))).length c (psS l (hgt l.length) (wyN e (hgt l.length))) ∧ Below w1.heap.size w1 w' := fun w1 hb1 => by
    have h1 := nodeAt_sl ao n cap zs 0 (by omega) w1 (HALL.out w1 hb1).2.2.2 hby hn
    obtain ⟨q1, q2, q3⟩ := HND.out (hgt l.length) (Nat.le_refl _)
    rw [HTP.out] at q1 q2 q3
    rw [q1, q2, q3] at h1
    exact h1
  clear hW0
  generalize hH : hgt l.length = H at *
  have hW0s := hs0
  clear hs0
  go_enter Try.func23, Try.ntmps23
  go_wp2_with (first
    | (go_at_call 22; with_reducible refine cR.mono ?_; rintro e' w1 ⟨bo, m, c, rfl, _, hb1⟩; rw [← HW0.out] at hb1; obtain ⟨k0, k1, k2, k3⟩ := HALL.out w1 hb1; have cN1 := cN0 w1 hb1; have Hb1 := hid hb1; clear k1 k2 k3 hb1)
    | (go_at_call 35; with_reducible refine cN1.mono ?_; rintro e' w2 ⟨po, pc, rfl, hP, hb2⟩; have HP2 := hid (hP.below ((Below.refl _ _).alloc (Nat.le_refl _) (.cells #[.bool (H == 0), .slice po (psS l H (wyN e H)).length pc] 58))); have HN2 := hid (bxN_new w2 w2.heap.size (H == 0) (.slice po (psS l H (wyN e H)).length pc) rfl); have HB2 := hid ((next Hb1.out hb2).alloc (next Hb1.out hb2).size (.cells #[.bool (H == 0), .slice po (psS l H (wyN e H)).length pc] 58)); have hw2 := (next Hb1.out hb2).size; clear hP hb2))
  go_loopg [] H (fun j wr => ∃ (po : Option Addr) (m pc B : Nat), j ≤ H ∧ Hid (m = (psS l j (wyN e j)).length) ∧ Hid (BxN wr w2.heap.size (j == 0) (.slice po m pc)) ∧ Hid (OwY B wr po m pc (psS l j (wyN e j))) ∧ Hid (Below W0.heap.size W0 wr))
  case atStart => exact ⟨po, _, pc, _, Nat.le_refl _, hid rfl, HN2, HP2, HB2⟩
  case round =>
    obtain ⟨po, m, pc, B, hj, HM, HN, HO, HB⟩ := hrel
    clear HN2 HP2 HB2 cN1 Hb1 k0 cR cN0
    have hnl := HN.out.lt
    obtain ⟨kp, _⟩ := HALL.out wr HB.out
    obtain ⟨n0, n1, n2, n3⟩ := HN.out.cells
    cases gk with
    | zero =>
      have hm7 : m ≤ 7 := by have := HM.out; rw [psS_len] at this; omega
      have cL := last_ps true po m pc (psS l 0 (wyN e 0)) p w.heap.size wr HO.out.ps kp (by omega)
      rw [HM.out, (HLS.out 0).1, HEN.out, ← HM.out] at cL
      obtain ⟨x0, x1, x2, x3, x4, x5⟩ := HXT.out
      have HFD2 := HFD
      generalize ba l e = s at *
      obtain ⟨A, Z, U⟩ := s
      simp only at cL x0 x1 x2 x3 x4 x5
      have d1 : (4 * Z + U) / 4 = Z := by omega
      have d2 : (4 * Z + U) % 4 = U := by omega
      have cE : ∀ w1, _ := fun w1 => extentOf_any A (4 * Z + U) (by omega) (by omega) w1
      rw [d1, d2] at cE
      have HFI : Hid (∀ w4, Below wr.heap.size wr w4 → BxX w4 (w.heap.size + 1) Blk.z ∧ Below w.heap.size w w4) := hid (fun w4 hb4 => by
        obtain ⟨_, g1, g2, _⟩ := HALL.out w4 (next HB.out hb4)
        exact ⟨g1, g2⟩)
      generalize 4 * Z + U = V at *
      clear HN HO HALL HND HLS HDN HEN HTP HNB
      go_wp2_with (first
        | (go_at_call 39; with_reducible refine cL.mono ?_; rintro e' w3 ⟨rfl, hb3⟩)
        | (go_at_call 36; with_reducible refine (cE _).mono ?_; rintro e' w4 ⟨rfl, hb4⟩; obtain ⟨k1, k2⟩ := HFI.out w4 (next hb3 hb4); obtain ⟨q0, q1, q2, q3, q4, q5⟩ := k1.cells; simp only [Blk.z] at q0 q1 q2; obtain ⟨s0, s1, s2, _⟩ := (((k1.set0 A).set1 Z).set2 U).cells; simp only at s0 s1 s2; have HB4 := hid k2; clear k1 k2 hb3 hb4))
      refine bodyPost_ret (v := .tuple #[.agg #[.int .i64 A, .int .i64 Z, .int .i64 U], .bool true]) (by simp [results, Try.results23, go_sem, s0, s1, s2]) rfl ⟨by rw [HFD2.out.1, HFD2.out.2], ?_⟩
      exact ((HB4.out.setCell (by show w.heap.size ≤ w.heap.size + 1; omega) _).setCell (by show w.heap.size ≤ w.heap.size + 1; omega) _).setCell (by show w.heap.size ≤ w.heap.size + 1; omega) _
    | succ j =>
      have hm7 : m ≤ 7 := by have := HM.out; rw [psS_len] at this; omega
      have cL := last_ps false po m pc (psS l (j + 1) (wyN e (j + 1))) p w.heap.size wr HO.out.ps kp (by omega)
      rw [HM.out, (HLS.out (j + 1)).1, HDN.out j hj, ← HM.out] at cL
      generalize (pa (psS l (j + 1) (wyN e (j + 1))) (wyK e (j + 1))).pos = A at cL
      have hnum := HNB.out j (by omega)
      have cN : ∀ w1, Below wr.heap.size wr w1 → Calls Try.prog 35 #[.slice ao n cap, .int .i64 ((nmN l.length j + wyN e j : Nat) : Int)] w1 fun e' w' => ∃ bo c, e' = .returned (.agg #[.bool (j == 0), .slice bo (psS l j (wyN e j)).length c]) ∧ OwY w1.heap.size w' bo (psS l j (wyN e j)).length c (psS l j (wyN e j)) ∧ Below w1.heap.size w1 w' := fun w1 hb1 => by
        have h1 := nodeAt_sl ao n cap zs (nmN l.length j + wyN e j) (by omega) w1 (HALL.out w1 (next HB.out hb1)).2.2.2 hby hn
        obtain ⟨q1, q2, q3⟩ := HND.out j (by omega)
        rw [q1, q2, q3] at h1
        exact h1
      obtain ⟨M, hM⟩ : ∃ M, (psS l j (wyN e j)).length = M := ⟨_, rfl⟩
      rw [hM] at cN
      have HM2 := hid hM.symm
      obtain ⟨Q, hQ⟩ : ∃ Q : Int, ((nmN l.length j + wyN e j : Nat) : Int) = Q := ⟨_, rfl⟩
      rw [hQ] at cN cL
      clear hM hQ hnum
      have HST : Hid (∀ w1 w3 po' pc', Below wr.heap.size wr w1 → Below w1.heap.size w1 w3 → OwY w1.heap.size w3 po' M pc' (psS l j (wyN e j)) → ((∃ v, w3.cell? ⟨w2.heap.size, 0, none⟩ = some v) ∧ (∃ v, w3.cell? ⟨w2.heap.size, 1, none⟩ = some v) ∧ w3.frozen? ⟨w2.heap.size, 0, none⟩ = false ∧ w3.frozen? ⟨w2.heap.size, 1, none⟩ = false) ∧ BxN ((w3.setCell ⟨w2.heap.size, 0, none⟩ (.bool (j == 0))).setCell ⟨w2.heap.size, 1, none⟩ (.slice po' M pc')) w2.heap.size (j == 0) (.slice po' M pc') ∧ OwY w1.heap.size ((w3.setCell ⟨w2.heap.size, 0, none⟩ (.bool (j == 0))).setCell ⟨w2.heap.size, 1, none⟩ (.slice po' M pc')) po' M pc' (psS l j (wyN e j)) ∧ Below W0.heap.size W0 ((w3.setCell ⟨w2.heap.size, 0, none⟩ (.bool (j == 0))).setCell ⟨w2.heap.size, 1, none⟩ (.slice po' M pc'))) := hid (fun w1 w3 po' pc' h1 h3 ho => by
        have g1 := (HN.out.kept h1).kept h3
        obtain ⟨m0, m1, m2, m3⟩ := g1.cells
        have hs1 := h1.size
        refine ⟨⟨⟨_, m0⟩, ⟨_, m1⟩, m2, m3⟩, (g1.set0 (j == 0)).set1 _, ho.off (((Off.refl (fun x => x = w2.heap.size) w3).setCell ⟨w2.heap.size, 0, none⟩ _ rfl).setCell ⟨w2.heap.size, 1, none⟩ _ rfl) (fun a ea hf => by subst ea; have := (ho.row.lt a.block rfl).1; omega), ?_⟩
        exact ((next (next HB.out h1) h3).setCell (by show W0.heap.size ≤ w2.heap.size; omega) _).setCell (by show W0.heap.size ≤ w2.heap.size; omega) _)
      clear HN HO HALL HND HLS HDN HEN HTP HNB HB
      go_wp2_with (first
        | (go_at_call 39; with_reducible refine cL.mono ?_; rintro e' w3 ⟨rfl, hb3⟩; have cN3 := cN w3 hb3)
        | (go_at_call 35; with_reducible refine cN3.mono ?_; rintro e' w4 ⟨po4, pc4, rfl, hO4, hb4⟩; obtain ⟨⟨⟨v0, m0⟩, ⟨v1, m1⟩, m2, m3⟩, g3, g4, g5⟩ := HST.out w3 w4 po4 pc4 hb3 hb4 hO4; have HN4 := hid g3; have HO4 := hid g4; have HB4 := hid g5; clear g3 g4 g5 hO4 hb3 hb4 HST))
      go_roundg j
      case rel => exact ⟨po4, M, pc4, _, by omega, HM2, HN4, HO4, HB4⟩
      case measure => omega
theorem tfind_sl (P : Int) (ao : Option Addr) (n cap : Nat) (zs : List Int) (p : Int) (hp : Rg p) (w : World) (h : Sl .u8 w ao n cap zs) (hby : Bytes zs) (hn : n ≤ 140737488355328) :
    Calls Try.prog 23 #[.int .i64 P, .slice ao n cap, .int .i64 p] w fun e w' => e = .returned (.tuple #[.agg #[.int .i64 (fdX P zs p).pos, .int .i64 (fdX P zs p).sz, .int .i64 (fdX P zs p).ix], .bool (fdXB P zs p)]) ∧ Below w.heap.size w w' := by
  by_cases hrd : RdX P zs
  · by_cases c : 0 ≤ p ∧ p < P
    · exact tfind_yes P ao n cap zs p hp w h hby hn hrd c.1 c.2
    · have hno : rxR P zs = false ∨ p < 0 ∨ P ≤ p := Or.inr (by omega)
      rw [(fd_no hno).1, (fd_no hno).2]
      exact tfind_no P ao n cap zs p hp w h hby hn hno
  · have hno : rxR P zs = false ∨ p < 0 ∨ P ≤ p := Or.inl (rx_f hrd).2
    rw [(fd_no hno).1, (fd_no hno).2]
    exact tfind_no P ao n cap zs p hp w h hby hn hno
end Go.Proofs.Ythkloknongkpdaa
