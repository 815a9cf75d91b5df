/- wal's finish by its contract. -/
import Derived.Test.YtgiippbjieecmaaKeepP
import Derived.Deep.RegionWith
namespace Go.Proofs.Ytgiippbjieecmaa
set_option maxRecDepth 100000
open Go.RowKit
set_option linter.unusedVariables false

def bringS (c : Chg) : List Stp := [.st (c.1.toNat * 64) c.2, .fl (c.1.toNat * 64) c.2.length]
def bringsL (l : List Chg) : List Stp := l.flatMap bringS
def keepS (line : Nat) (ys : List Int) : List Stp := [.st (line * 64) ys, .fl (line * 64) ys.length, .fe]
def finS (mk : Nat) (l : List Chg) : List Stp := (bringsL l ++ [.fe]) ++ keepS mk (markL [])
theorem bringsL_snoc (l : List Chg) (c : Chg) : bringsL (l ++ [c]) = bringsL l ++ bringS c := by simp [bringsL]
theorem bringsL_length (l : List Chg) : (bringsL l).length = 2 * l.length := by
  induction l with
  | nil => rfl
  | cons c l ih => simp only [bringsL, List.flatMap_cons, List.length_append] at ih ⊢; rw [ih]; simp [bringS]; omega
theorem finS_eq (xs : List Stp) (mk : Nat) (l : List Chg) : xs ++ finS mk l = ((xs ++ bringsL l) ++ [.fe]) ++ [.st (mk * 64) (markL []), .fl (mk * 64) 64, .fe] := by
  unfold finS keepS
  rw [markL_length, ← List.append_assoc, ← List.append_assoc]
theorem StepsAt.below {w w' : World} {F K : Nat → Prop} {s p : Nat} {ro : Option Addr} {n rc : Nat} {fs : List Value} {xs : List Stp} (h : StepsAt w F K s p ro n rc fs xs) (hb : Below w.heap.size w w') : StepsAt w' F K s p ro n rc fs xs :=
  h.same hb.size (fun j hj => hb.block j (by
    rcases hj with h1 | rfl | ⟨r, h1, rfl⟩
    · exact (h.kb j h1).1
    · exact h.lt
    · exact (h.rb h1).2)) h.fb (fun j hj => (h.kb j hj).2.2.1)
theorem Grew.of_below {w w' : World} {s : Nat} {ro : Option Addr} (hb : Below w.heap.size w w') : Grew w s ro w' ro := ⟨Off.of_below hb, fun r hr => Or.inl ⟨r, hr, rfl⟩⟩
theorem dat_low {W0 w : World} {F K : Nat → Prop} {s p : Nat} {ro : Option Addr} {n rc : Nat} {fs : List Value} {xs : List Stp} (h : StepsAt w F K s p ro n rc fs xs) {bl : Nat} {ba : Option Addr} (hl : 0 < bl → ∀ c, ba = some c → c.block < s ∧ ¬ F c.block) : Dat w F s ro bl ba := fun hn c hc => by
  obtain ⟨a, b⟩ := hl hn c hc
  have := h.lt
  exact ⟨by omega, by omega, b, fun r hr => by have := (h.rb hr).1; omega⟩
theorem dat_new {w w' : World} {F K : Nat → Prop} {s p : Nat} {ro : Option Addr} {n rc : Nat} {fs : List Value} {xs : List Stp} (h : StepsAt w F K s p ro n rc fs xs) {bl : Nat} {ba : Option Addr} (hl : ∀ c, ba = some c → w.heap.size ≤ c.block ∧ c.block < w'.heap.size) : Dat w' F s ro bl ba := fun hn c hc => by
  obtain ⟨a, b⟩ := hl c hc
  have := h.lt
  exact ⟨b, by omega, fun hf => by have := h.fb _ hf; omega, fun r hr => by have := (h.rb hr).2; omega⟩
theorem Sl.block_lt {k : IntKind} {w : World} {ao : Option Addr} {n cap : Nat} {zs : List Int} (h : Sl k w ao n cap zs) (hn : 0 < n) {c : Addr} (hc : ao = some c) : c.block < w.heap.size := by
  obtain ⟨b, off, e, hlt, _⟩ := h.here hn
  rw [hc] at e
  cases e
  exact hlt

set_option maxHeartbeats 3200000 in
theorem finish_any {W0 w : World} {F K : Nat → Prop} {s p : Nat} {ro : Option Addr} {n rc : Nat} {fs : List Value} {xs : List Stp} (h : StepsAt w F K s p ro n rc fs xs) (mk : Nat) (F1 R1 : Int) (hmk : mk ≤ 4096) (lo : Option Addr) (m lc : Nat) (D : Nat → ChD)
    (hW : W0.heap.size = s) (hC : Chs W0 lo m D) (hb0 : Below s W0 w) (hr : ∀ i, i < m → 0 ≤ (D i).line ∧ (D i).line ≤ 4096) (hno : ∀ i, i < m → 0 < (D i).bl → ∀ c, (D i).ba = some c → ¬ F c.block) (hm : m ≤ 4096) (hn : n ≤ 10) :
    Calls Try.prog 51 #[.pointer (some ⟨s, 0, none⟩), .agg #[.int .i64 (mk : Int), .int .i64 F1, .int .i64 R1], .slice lo m lc] w fun e w' => e = .returned (.tuple #[]) ∧ ∃ K' ro' rc' fs', StepsAt w' F K' s p ro' (n + 2 * m + 4) rc' fs' (xs ++ finS mk (saysN D m)) ∧ Grew w s ro w' ro' := by
  have hbA := (Below.refl w.heap.size w).alloc (Nat.le_refl _) (.cells #[.int .i64 (mk : Int), .int .i64 F1, .int .i64 R1] 23)
  have hA := h.below hbA
  have oG : (w.alloc (.cells #[.int .i64 (mk : Int), .int .i64 F1, .int .i64 R1] 23)).heap[w.heap.size]? = some (.cells #[.int .i64 (mk : Int), .int .i64 F1, .int .i64 R1] 23 (0, 0)) := heap_alloc_new w _
  have lG : w.heap.size < (w.alloc (.cells #[.int .i64 (mk : Int), .int .i64 F1, .int .i64 R1] 23)).heap.size := by simp
  have hbs : Below s W0 (w.alloc (.cells #[.int .i64 (mk : Int), .int .i64 F1, .int .i64 R1] 23)) := hb0.trans (hbA.mono (Nat.le_of_lt h.lt))
  have nG : ¬ (w.heap.size = s ∨ ∃ r, ro = some r ∧ w.heap.size = r.block) := by
    rintro (e | ⟨r, hr', e⟩)
    · have := h.lt; omega
    · have := (h.rb hr').2; omega
  have gA : Grew w s ro (w.alloc (.cells #[.int .i64 (mk : Int), .int .i64 F1, .int .i64 R1] 23)) ro := Grew.of_below hbA
  obtain ⟨wA, hwA⟩ : ∃ wA, wA = w.alloc (.cells #[.int .i64 (mk : Int), .int .i64 F1, .int .i64 R1] 23) := ⟨_, rfl⟩
  rw [← hwA] at hA oG lG hbs gA
  have HN : Hid (n ≤ 10 ∧ m ≤ 4096 ∧ mk ≤ 4096 ∧ W0.heap.size = s) := ⟨hn, hm, hmk, hW⟩
  have hm9 : m ≤ 9223372036854775807 := by omega
  go_enter Try.func51, Try.ntmps51
  go_wp2
  rw [← hwA]
  clear h hbA hwA hn hm hmk hW hb0
  go_loopw [10] (fun t wr => ∃ (k : Nat) (K' : Nat → Prop) (ro' : Option Addr) (rc' : Nat) (fs' : List Value), k ≤ m ∧ t = .int .i64 k ∧ StepsAt wr F K' s p ro' (n + 2 * k) rc' fs' (xs ++ bringsL (saysN D k)) ∧ Grew wA s ro wr ro') (fun t _ => m - (intOf t).toNat)
  case atStart => exact ⟨0, K, ro, rc, fs, Nat.zero_le _, rfl, (by simpa [bringsL, saysN] using hA), Grew.refl _ _ _⟩
  case round =>
    obtain ⟨k, K', ro', rc', fs', hk, rfl, h, hg⟩ := hrel
    by_cases hlt : k < m
    · obtain ⟨b1, o1, rfl, _, _⟩ := hC.here (by omega)
      have hbr : Below W0.heap.size W0 wr := by rw [HN.out.2.2.2]; exact hbs.trans (hg.below hA)
      obtain ⟨x1, x2, ok⟩ := hC.later hbr hlt
      have hki : (k : Int) < (m : Int) := by omega
      obtain ⟨r0, r1⟩ := hr k hlt
      have hlow : 0 < (D k).bl → ∀ c, (D k).ba = some c → c.block < s ∧ ¬ F c.block := fun hp c hc => ⟨by have := (hC.ok k hlt).bs.block_lt hp hc; rw [HN.out.2.2.2] at this; exact this, hno k hlt hp c hc⟩
      have HS : Hid (xs ++ bringsL (saysN D (k + 1)) = (xs ++ bringsL (saysN D k)) ++ [.st ((D k).line.toNat * 64) (D k).bz, .fl ((D k).line.toNat * 64) (D k).bl]) := by
        rw [saysN_succ, bringsL_snoc, List.append_assoc, ← ok.bs.len]; rfl
      obtain ⟨A, hAe⟩ : ∃ A, A = D k := ⟨_, rfl⟩
      rw [← hAe] at x1 x2 ok r0 r1 hlow HS
      obtain ⟨q, hq⟩ : ∃ q : Nat, A.line = q := ⟨A.line.toNat, by omega⟩
      have hq9 : q ≤ 4096 := by omega
      rw [hq] at x1 HS
      rw [Int.toNat_natCast] at HS
      have hbA2 : Below wr.heap.size wr (wr.alloc (.cells #[.int .i64 (q : Int), .slice A.ba A.bl A.bc] 65)) := (Below.refl _ _).alloc (Nat.le_refl _) _
      have h2 := h.below hbA2
      have hn5 : n + 2 * k ≤ 100000 := by have := HN.out; omega
      have cB := bring_any h2 q hq9 A.ba A.bl A.bc A.bz (ok.bs.below hbA2) ok.by_ ok.bm (dat_low (W0 := W0) h2 hlow) hn5
      have g2 : Grew wA s ro (wr.alloc (.cells #[.int .i64 (q : Int), .slice A.ba A.bl A.bc] 65)) ro' := hg.trans (Grew.of_below hbA2)
      have HG := hid g2
      clear hAe hC hno hr ok hlow r0 r1 hq h h2 hbA2 hg g2 hbr hA
      go_wp2_with (go_at_call 72; with_reducible refine cB.mono ?_; rintro e w3 ⟨rfl, K3, ro3, rc3, fs3, h3, g3⟩)
      go_roundw
      case rel => exact ⟨k + 1, K3, ro3, rc3, fs3, by omega, by go_num, (by rw [HS.out, show n + 2 * (k + 1) = n + 2 * k + 2 by omega]; exact h3), HG.out.trans g3⟩
      case measure => simp [intOf]; omega
    · obtain rfl : k = m := by omega
      have oG2 : wr.heap[w.heap.size]? = some (.cells #[.int .i64 (mk : Int), .int .i64 F1, .int .i64 R1] 23 (0, 0)) := (hg.off.block _ lG nG).trans oG
      have hC3 : More wr wr F K' s p ro' (n + 2 * k) rc' 1 fs' (xs ++ bringsL (saysN D k)) #[fnF p] := ⟨h, Below.refl _ _, rfl, by omega, by simp [fnF, Value.oneCell'], by have := HN.out; omega⟩
      have HC := hid hC3
      have HG := hid hg
      have HGA := hid gA
      obtain ⟨k3, d1⟩ := h.cells
      have hb4 : ∀ x, Below wr.heap.size wr (wr.alloc x) := fun x => (Below.refl _ _).alloc (Nat.le_refl _) _
      have k4 : ∀ x, (wr.alloc x).cell? ⟨s, 0, none⟩ = some (.pointer (some ⟨p, 0, none⟩)) := fun x => ((hb4 x).cell (p := ⟨s, 0, none⟩) h.lt).trans k3
      have d4 : ∀ x, (wr.alloc x).cell? ⟨s, 1, none⟩ = some (.slice ro' (n + 2 * k) rc') := fun x => ((hb4 x).cell (p := ⟨s, 1, none⟩) h.lt).trans d1
      have HF : Hid (xs ++ finS mk (saysN D k) = ((xs ++ bringsL (saysN D k)) ++ [.fe]) ++ [.st (mk * 64) (markL []), .fl (mk * 64) 64, .fe]) := finS_eq _ _ _
      have hbn : Bytes [] := fun z hz => by cases hz
      have hn5 : n + 2 * k + 1 ≤ 100000 := by have := HN.out; omega
      have hmk : mk ≤ 4096 := HN.out.2.2.1
      have lG := hid lG
      have nG := hid nG
      have oG := hid oG
      clear hC3 h hg gA hA hb4 hbs hC hno hr oG2
      go_wp2_with fail
      refine wp_region_held_drew (S := fun w' => w'.cell? ⟨s, 0, none⟩ = some (.pointer (some ⟨p, 0, none⟩))) (by kernel_rfl) k3 (fun hH => ?_)
      refine wpAnyH_take (i := 0) (v := ?_) (List.getElem?_toArray.trans rfl) (by kernel_rfl) (by kernel_rfl) (by kernel_rfl) (fun _ _ _ h => h) (Or.inl ⟨by rfl, ?_⟩) (by assumption) ?_
      rotate_left
      · (intro w hSw; (try dsimp only at hSw); go_simp; try (with_reducible rfl))
      simp only [Act.put, List.setIfInBounds_toArray, List.set_cons_zero, List.set_cons_succ]
      refine wpAnyH_take (i := 1) (v := ?_) (List.getElem?_toArray.trans rfl) (by kernel_rfl) (by kernel_rfl) (by kernel_rfl) (fun _ _ _ h => h) (Or.inl ⟨by rfl, ?_⟩) (by assumption) ?_
      rotate_left
      · (intro w hSw; (try dsimp only at hSw); go_simp; try (with_reducible rfl))
      simp only [Act.put, List.setIfInBounds_toArray, List.set_cons_zero, List.set_cons_succ]
      refine wpAnyH_take (i := 2) (v := ?_) (List.getElem?_toArray.trans rfl) (by kernel_rfl) (by kernel_rfl) (by kernel_rfl) (fun _ _ _ h => h) (Or.inl ⟨by rfl, ?_⟩) (by assumption) ?_
      rotate_left
      · (intro w hSw; (try dsimp only at hSw); go_simp; try (with_reducible rfl))
      simp only [Act.put, List.setIfInBounds_toArray, List.set_cons_zero, List.set_cons_succ]
      refine wpAnyH_take (i := 3) (v := ?_) (List.getElem?_toArray.trans rfl) (by kernel_rfl) (by kernel_rfl) (by kernel_rfl) (fun _ _ _ h => h) (Or.inl ⟨by rfl, ?_⟩) (by assumption) ?_
      rotate_left
      · (intro w hSw; (try dsimp only at hSw); go_simp; try (with_reducible rfl))
      simp only [Act.put, List.setIfInBounds_toArray, List.set_cons_zero, List.set_cons_succ]
      refine wpAnyH_take (i := 5) (v := ?_) (List.getElem?_toArray.trans rfl) (by kernel_rfl) (by kernel_rfl) (by kernel_rfl) (fun _ _ _ h => h) (Or.inl ⟨by rfl, ?_⟩) (by assumption) ?_
      rotate_left
      · (intro w hSw; (try dsimp only at hSw); go_simp; try (with_reducible rfl))
      simp only [Act.put, List.setIfInBounds_toArray, List.set_cons_zero, List.set_cons_succ]
      refine wpAnyH_take (i := 6) (v := ?_) (List.getElem?_toArray.trans rfl) (by kernel_rfl) (by kernel_rfl) (by kernel_rfl) (fun _ _ _ h => h) (Or.inl ⟨by rfl, ?_⟩) (by assumption) ?_
      rotate_left
      · (intro w hSw; (try dsimp only at hSw); go_simp; try (with_reducible rfl))
      simp only [Act.put, List.setIfInBounds_toArray, List.set_cons_zero, List.set_cons_succ]
      refine wpAnyH_take (i := 7) (v := ?_) (List.getElem?_toArray.trans rfl) (by kernel_rfl) (by kernel_rfl) (by kernel_rfl) (fun _ _ _ h => h) (Or.inl ⟨by rfl, ?_⟩) (by assumption) ?_
      rotate_left
      · (intro w hSw; (try dsimp only at hSw); go_simp; try (with_reducible rfl))
      simp only [Act.put, List.setIfInBounds_toArray, List.set_cons_zero, List.set_cons_succ]
      refine wpAnyH_take (i := 8) (v := ?_) (List.getElem?_toArray.trans rfl) (by kernel_rfl) (by kernel_rfl) (by kernel_rfl) (fun _ _ _ h => h) (Or.inl ⟨by rfl, ?_⟩) (by assumption) ?_
      rotate_left
      · (intro w hSw; (try dsimp only at hSw); go_simp; try (with_reducible rfl))
      simp only [Act.put, List.setIfInBounds_toArray, List.set_cons_zero, List.set_cons_succ]
      refine wpAnyH_take (i := 9) (v := ?_) (List.getElem?_toArray.trans rfl) (by kernel_rfl) (by kernel_rfl) (by kernel_rfl) (fun _ _ _ h => h) (Or.inl ⟨by rfl, ?_⟩) (by assumption) ?_
      rotate_left
      · (intro w hSw; (try dsimp only at hSw); go_simp; try (with_reducible rfl))
      simp only [Act.put, List.setIfInBounds_toArray, List.set_cons_zero, List.set_cons_succ]
      refine wpAnyH_ready (rs := [4, 10]) (by kernel_rfl) (by simp) ?_
      refine AllReadyH.cons (List.getElem?_toArray.trans rfl) (fun K1 hK1 => ?_) (AllReadyH.cons (List.getElem?_toArray.trans rfl) (fun K1 hK1 => ?_) AllReadyH.nil)
      · go_simp
        refine hK1.out _ _ (by assumption) (fun hHeld => ?_)
        clear hK1 K1
        refine wpAnyH_ready (rs := [10]) (by kernel_rfl) (by simp) ?_
        refine AllReadyH.cons (List.getElem?_toArray.trans rfl) (fun K2 hK2 => ?_) AllReadyH.nil
        go_simp
        refine hK2.out _ _ (k4 _) (fun hHeld2 => ?_)
        clear hK2 K2
        refine wpAnyH_ready (rs := [11]) (by kernel_rfl) (by simp) ?_
        refine AllReadyH.cons (List.getElem?_toArray.trans rfl) (fun K3 hK3 => ?_) AllReadyH.nil
        refine step_more (by rfl) (.tmp 25) (.tmp 31) (by rfl) HC (by rfl) (by rfl) ?_
        intro g cap w2 HP f5 d5
        have k5 := put_cell0 HP.out HC.out
        refine hK3.out _ _ k5 (fun hHeld3 => ?_)
        clear hK3 K3
        simp only [Act.put, List.setIfInBounds_toArray, List.set_cons_zero, List.set_cons_succ]
        refine wpAnyH_take (i := 12) (v := ?_) (List.getElem?_toArray.trans rfl) (by kernel_rfl) (by kernel_rfl) (by kernel_rfl) (fun _ _ _ h => h) (Or.inl ⟨by rfl, ?_⟩) (by assumption) ?_
        rotate_left
        · (intro w hSw; (try dsimp only at hSw); go_simp; try (with_reducible rfl))
        simp only [Act.put, List.setIfInBounds_toArray, List.set_cons_zero, List.set_cons_succ]
        refine wpAnyH_take (i := 13) (v := ?_) (List.getElem?_toArray.trans rfl) (by kernel_rfl) (by kernel_rfl) (by kernel_rfl) (fun _ _ _ h => h) (Or.inl ⟨by rfl, ?_⟩) (by assumption) ?_
        rotate_left
        · (intro w hSw; (try dsimp only at hSw); go_simp; try (with_reducible rfl))
        simp only [Act.put, List.setIfInBounds_toArray, List.set_cons_zero, List.set_cons_succ]
        refine wpAnyH_ready (rs := [14]) (by kernel_rfl) (by simp) ?_
        refine AllReadyH.cons (List.getElem?_toArray.trans rfl) (fun K4 hK4 => ?_) AllReadyH.nil
        go_simp
        refine hK4.out _ _ (cell_off0 k5) (fun hHeld4 => ?_)
        clear hK4 K4
        refine wpAnyH_done (by kernel_rfl) ?_ _
        obtain ⟨q1, q2⟩ := fence_end HC.out HP.out
        have g3 := HG.out.trans q2
        have oG3 : (w2.setCell ⟨s, 1, none⟩ (.slice (some ⟨g, 0, none⟩) (n + 2 * k + 1) cap)).heap[w.heap.size]? = some (.cells #[.int .i64 (mk : Int), .int .i64 F1, .int .i64 R1] 23 (0, 0)) := (g3.off.block _ lG.out nG.out).trans oG.out
        obtain ⟨wz, hwz⟩ : ∃ wz, wz = w2.setCell ⟨s, 1, none⟩ (.slice (some ⟨g, 0, none⟩) (n + 2 * k + 1) cap) := ⟨_, rfl⟩
        rw [← hwz] at q1 g3 oG3 ⊢
        clear hwz hHeld4 hHeld3 hHeld2 hHeld hH k5 f5 d5 HP q2 k3 d1 k4 d4 HC
        have cz : wz.cell? ⟨w.heap.size, 0, none⟩ = some (.int .i64 (mk : Int)) := by simp [World.cell?, oG3]
        have lz : w.heap.size < wz.heap.size := (Array.getElem?_eq_some_iff.1 oG3).1
        have hzd := q1.below (below_drew (Below.refl _ _))
        have gzd : Grew wA s ro wz.drew (some ⟨g, 0, none⟩) := g3.trans (Grew.of_below (below_drew (Below.refl _ _)))
        have HZ := hid (And.intro hzd gzd)
        clear q1 g3 oG3 hzd gzd
        have cM := markOf_any none 0 0 [] wz.drew (sl_none _) hbn (by omega)
        go_wp2_with fail
        refine wp_region_held_drew (S := fun w' => w'.cell? ⟨w.heap.size, 0, none⟩ = some (.int .i64 (mk : Int))) (by kernel_rfl) cz (fun hH => ?_)
        refine wpAnyH_take (i := 0) (v := ?_) (List.getElem?_toArray.trans rfl) (by kernel_rfl) (by kernel_rfl) (by kernel_rfl) (fun _ _ _ h => h) (Or.inl ⟨by rfl, ?_⟩) (by assumption) ?_
        rotate_left
        · (intro w hSw; (try dsimp only at hSw); go_simp; try (with_reducible rfl))
        simp only [Act.put, List.setIfInBounds_toArray, List.set_cons_zero, List.set_cons_succ]
        refine wpAnyH_take (i := 1) (v := ?_) (List.getElem?_toArray.trans rfl) (by kernel_rfl) (by kernel_rfl) (by kernel_rfl) (fun _ _ _ h => h) (Or.inl ⟨by rfl, ?_⟩) (by assumption) ?_
        rotate_left
        · (intro w hSw; (try dsimp only at hSw); go_simp; try (with_reducible rfl))
        simp only [Act.put, List.setIfInBounds_toArray, List.set_cons_zero, List.set_cons_succ]
        refine wpAnyH_take (i := 2) (v := ?_) (List.getElem?_toArray.trans rfl) (by kernel_rfl) (by kernel_rfl) (by kernel_rfl) (fun _ _ _ h => h) (Or.inl ⟨by rfl, ?_⟩) (by assumption) ?_
        rotate_left
        · (intro w hSw; (try dsimp only at hSw); go_simp; try (with_reducible rfl))
        simp only [Act.put, List.setIfInBounds_toArray, List.set_cons_zero, List.set_cons_succ]
        refine wpAnyH_ready (rs := [3]) (by kernel_rfl) (by simp) ?_
        refine AllReadyH.cons (List.getElem?_toArray.trans rfl) (fun K3 hK3 => ?_) AllReadyH.nil
        go_simp
        refine cM.mono ?_
        rintro e w4 ⟨bo, c, rfl, hown, hb4⟩
        have c4 := (hb4.cell (p := ⟨w.heap.size, 0, none⟩) lz).trans cz
        have h4 := HZ.out.1.below hb4
        have cK := keep_any h4 mk hmk bo 64 c (markL []) hown.sl (markL_bytes []) hown.cap_le.2 (dat_new HZ.out.1 (fun c hc => own_at hown hc)) hn5
        have HG4 := hid (HZ.out.2.trans (Grew.of_below hb4))
        clear h4 hown hb4
        dsimp only
        refine hK3.out _ _ c4 (fun hHeld3 => ?_)
        clear hK3 K3
        refine wpAnyH_ready (rs := [4]) (by kernel_rfl) (by simp) ?_
        refine AllReadyH.cons (List.getElem?_toArray.trans rfl) (fun K4 hK4 => ?_) AllReadyH.nil
        go_simp
        refine cK.mono ?_
        rintro e w5 ⟨rfl, K5, ro5, rc5, fs5, h5, g5⟩
        dsimp only
        have g6 := HG4.out.trans g5
        have c5 : w5.cell? ⟨w.heap.size, 0, none⟩ = some (.int .i64 (mk : Int)) := by
          have := (g6.off.block _ lG.out nG.out).trans oG.out
          simp [World.cell?, this]
        refine hK4.out _ _ c5 (fun hHeld4 => ?_)
        clear hK4 K4
        refine wpAnyH_done (by kernel_rfl) ?_ _
        go_end0
        exact ⟨rfl, K5, ro5, rc5, fs5, (by rw [HF.out]; exact h5), HGA.out.trans g6⟩
      · go_simp
        refine hK1.out _ _ (k4 _) (fun hHeld => ?_)
        clear hK1 K1
        refine wpAnyH_ready (rs := [4]) (by kernel_rfl) (by simp) ?_
        refine AllReadyH.cons (List.getElem?_toArray.trans rfl) (fun K2 hK2 => ?_) AllReadyH.nil
        go_simp
        refine hK2.out _ _ (by assumption) (fun hHeld2 => ?_)
        clear hK2 K2
        refine wpAnyH_ready (rs := [11]) (by kernel_rfl) (by simp) ?_
        refine AllReadyH.cons (List.getElem?_toArray.trans rfl) (fun K3 hK3 => ?_) AllReadyH.nil
        refine step_more (by rfl) (.tmp 25) (.tmp 31) (by rfl) HC (by rfl) (by rfl) ?_
        intro g cap w2 HP f5 d5
        have k5 := put_cell0 HP.out HC.out
        refine hK3.out _ _ k5 (fun hHeld3 => ?_)
        clear hK3 K3
        simp only [Act.put, List.setIfInBounds_toArray, List.set_cons_zero, List.set_cons_succ]
        refine wpAnyH_take (i := 12) (v := ?_) (List.getElem?_toArray.trans rfl) (by kernel_rfl) (by kernel_rfl) (by kernel_rfl) (fun _ _ _ h => h) (Or.inl ⟨by rfl, ?_⟩) (by assumption) ?_
        rotate_left
        · (intro w hSw; (try dsimp only at hSw); go_simp; try (with_reducible rfl))
        simp only [Act.put, List.setIfInBounds_toArray, List.set_cons_zero, List.set_cons_succ]
        refine wpAnyH_take (i := 13) (v := ?_) (List.getElem?_toArray.trans rfl) (by kernel_rfl) (by kernel_rfl) (by kernel_rfl) (fun _ _ _ h => h) (Or.inl ⟨by rfl, ?_⟩) (by assumption) ?_
        rotate_left
        · (intro w hSw; (try dsimp only at hSw); go_simp; try (with_reducible rfl))
        simp only [Act.put, List.setIfInBounds_toArray, List.set_cons_zero, List.set_cons_succ]
        refine wpAnyH_ready (rs := [14]) (by kernel_rfl) (by simp) ?_
        refine AllReadyH.cons (List.getElem?_toArray.trans rfl) (fun K4 hK4 => ?_) AllReadyH.nil
        go_simp
        refine hK4.out _ _ (cell_off0 k5) (fun hHeld4 => ?_)
        clear hK4 K4
        refine wpAnyH_done (by kernel_rfl) ?_ _
        obtain ⟨q1, q2⟩ := fence_end HC.out HP.out
        have g3 := HG.out.trans q2
        have oG3 : (w2.setCell ⟨s, 1, none⟩ (.slice (some ⟨g, 0, none⟩) (n + 2 * k + 1) cap)).heap[w.heap.size]? = some (.cells #[.int .i64 (mk : Int), .int .i64 F1, .int .i64 R1] 23 (0, 0)) := (g3.off.block _ lG.out nG.out).trans oG.out
        obtain ⟨wz, hwz⟩ : ∃ wz, wz = w2.setCell ⟨s, 1, none⟩ (.slice (some ⟨g, 0, none⟩) (n + 2 * k + 1) cap) := ⟨_, rfl⟩
        rw [← hwz] at q1 g3 oG3 ⊢
        clear hwz hHeld4 hHeld3 hHeld2 hHeld hH k5 f5 d5 HP q2 k3 d1 k4 d4 HC
        have cz : wz.cell? ⟨w.heap.size, 0, none⟩ = some (.int .i64 (mk : Int)) := by simp [World.cell?, oG3]
        have lz : w.heap.size < wz.heap.size := (Array.getElem?_eq_some_iff.1 oG3).1
        have hzd := q1.below (below_drew (Below.refl _ _))
        have gzd : Grew wA s ro wz.drew (some ⟨g, 0, none⟩) := g3.trans (Grew.of_below (below_drew (Below.refl _ _)))
        have HZ := hid (And.intro hzd gzd)
        clear q1 g3 oG3 hzd gzd
        have cM := markOf_any none 0 0 [] wz.drew (sl_none _) hbn (by omega)
        go_wp2_with fail
        refine wp_region_held_drew (S := fun w' => w'.cell? ⟨w.heap.size, 0, none⟩ = some (.int .i64 (mk : Int))) (by kernel_rfl) cz (fun hH => ?_)
        refine wpAnyH_take (i := 0) (v := ?_) (List.getElem?_toArray.trans rfl) (by kernel_rfl) (by kernel_rfl) (by kernel_rfl) (fun _ _ _ h => h) (Or.inl ⟨by rfl, ?_⟩) (by assumption) ?_
        rotate_left
        · (intro w hSw; (try dsimp only at hSw); go_simp; try (with_reducible rfl))
        simp only [Act.put, List.setIfInBounds_toArray, List.set_cons_zero, List.set_cons_succ]
        refine wpAnyH_take (i := 1) (v := ?_) (List.getElem?_toArray.trans rfl) (by kernel_rfl) (by kernel_rfl) (by kernel_rfl) (fun _ _ _ h => h) (Or.inl ⟨by rfl, ?_⟩) (by assumption) ?_
        rotate_left
        · (intro w hSw; (try dsimp only at hSw); go_simp; try (with_reducible rfl))
        simp only [Act.put, List.setIfInBounds_toArray, List.set_cons_zero, List.set_cons_succ]
        refine wpAnyH_take (i := 2) (v := ?_) (List.getElem?_toArray.trans rfl) (by kernel_rfl) (by kernel_rfl) (by kernel_rfl) (fun _ _ _ h => h) (Or.inl ⟨by rfl, ?_⟩) (by assumption) ?_
        rotate_left
        · (intro w hSw; (try dsimp only at hSw); go_simp; try (with_reducible rfl))
        simp only [Act.put, List.setIfInBounds_toArray, List.set_cons_zero, List.set_cons_succ]
        refine wpAnyH_ready (rs := [3]) (by kernel_rfl) (by simp) ?_
        refine AllReadyH.cons (List.getElem?_toArray.trans rfl) (fun K3 hK3 => ?_) AllReadyH.nil
        go_simp
        refine cM.mono ?_
        rintro e w4 ⟨bo, c, rfl, hown, hb4⟩
        have c4 := (hb4.cell (p := ⟨w.heap.size, 0, none⟩) lz).trans cz
        have h4 := HZ.out.1.below hb4
        have cK := keep_any h4 mk hmk bo 64 c (markL []) hown.sl (markL_bytes []) hown.cap_le.2 (dat_new HZ.out.1 (fun c hc => own_at hown hc)) hn5
        have HG4 := hid (HZ.out.2.trans (Grew.of_below hb4))
        clear h4 hown hb4
        dsimp only
        refine hK3.out _ _ c4 (fun hHeld3 => ?_)
        clear hK3 K3
        refine wpAnyH_ready (rs := [4]) (by kernel_rfl) (by simp) ?_
        refine AllReadyH.cons (List.getElem?_toArray.trans rfl) (fun K4 hK4 => ?_) AllReadyH.nil
        go_simp
        refine cK.mono ?_
        rintro e w5 ⟨rfl, K5, ro5, rc5, fs5, h5, g5⟩
        dsimp only
        have g6 := HG4.out.trans g5
        have c5 : w5.cell? ⟨w.heap.size, 0, none⟩ = some (.int .i64 (mk : Int)) := by
          have := (g6.off.block _ lG.out nG.out).trans oG.out
          simp [World.cell?, this]
        refine hK4.out _ _ c5 (fun hHeld4 => ?_)
        clear hK4 K4
        refine wpAnyH_done (by kernel_rfl) ?_ _
        go_end0
        exact ⟨rfl, K5, ro5, rc5, fs5, (by rw [HF.out]; exact h5), HGA.out.trans g6⟩
end Go.Proofs.Ytgiippbjieecmaa
