/- wal's run by its contract: the steps, up to the first error. -/
import Derived.Test.YtgiippbjieecmaaFinishP
namespace Go.Proofs.Ytgiippbjieecmaa
set_option maxRecDepth 100000
open Go.RowKit
set_option linter.unusedVariables false

def stpE (S : St) : Stp → Int
  | .st a ys => stepE S a ys.length
  | .fl a n => stepE S a n
  | .fe => stepE S 0 0
def stpS (S : St) : Stp → St
  | .st a ys => Does (fun T => storeS T a ys) S a ys.length
  | .fl a n => Does (fun T => flushS T (lineA a n) (lineB a n)) S a n
  | .fe => Does fenceS S 0 0
/-- The first error that a step tells; what the steps up to it make. -/
def runE (S : St) : List Stp → Int
  | [] => 0
  | x :: l => if stpE S x = 0 then runE (stpS S x) l else stpE S x
def runS (S : St) : List Stp → St
  | [] => S
  | x :: l => if stpE S x = 0 then runS (stpS S x) l else stpS S x
theorem run_ok {S : St} {x : Stp} (h : stpE S x = 0) (l : List Stp) : runE S (x :: l) = runE (stpS S x) l ∧ runS S (x :: l) = runS (stpS S x) l := ⟨if_pos h, if_pos h⟩
theorem run_bad {S : St} {x : Stp} (h : ¬ stpE S x = 0) (l : List Stp) : runE S (x :: l) = stpE S x ∧ runS S (x :: l) = stpS S x := ⟨if_neg h, if_neg h⟩
theorem run_append (S : St) (l m : List Stp) : (runE S l = 0 → runE S (l ++ m) = runE (runS S l) m ∧ runS S (l ++ m) = runS (runS S l) m) ∧ (¬ runE S l = 0 → runE S (l ++ m) = runE S l ∧ runS S (l ++ m) = runS S l) := by
  induction l generalizing S with
  | nil => exact ⟨fun _ => ⟨rfl, rfl⟩, fun h => absurd rfl h⟩
  | cons x l ih =>
    by_cases h : stpE S x = 0
    · rw [List.cons_append, (run_ok h _).1, (run_ok h _).2, (run_ok h _).1, (run_ok h _).2]; exact ih _
    · rw [List.cons_append, (run_bad h _).1, (run_bad h _).2, (run_bad h _).1, (run_bad h _).2]; exact ⟨fun e => absurd e h, fun _ => ⟨rfl, rfl⟩⟩
theorem run_snoc {S : St} {l : List Stp} (h : runE S l = 0) (x : Stp) : runE S (l ++ [x]) = stpE (runS S l) x ∧ runS S (l ++ [x]) = stpS (runS S l) x := by
  obtain ⟨h1, h2⟩ := (run_append S l [x]).1 h
  rw [h1, h2]
  by_cases e : stpE (runS S l) x = 0
  · rw [(run_ok e _).1, (run_ok e _).2, e]; exact ⟨rfl, rfl⟩
  · exact run_bad e _
/-- Where a step fails, there the row ends. -/
theorem run_stops {S : St} {l : List Stp} {k : Nat} {x : Stp} (h : runE S (l.take k) = 0) (hx : l[k]? = some x) (he : ¬ stpE (runS S (l.take k)) x = 0) : runE S l = stpE (runS S (l.take k)) x ∧ runS S l = stpS (runS S (l.take k)) x := by
  have hk : k < l.length := (List.getElem?_eq_some_iff.1 hx).1
  have hx' : l[k] = x := (List.getElem?_eq_some_iff.1 hx).2
  obtain ⟨h1, h2⟩ := run_snoc h x
  obtain ⟨g1, g2⟩ := (run_append S (l.take k ++ [x]) (l.drop (k + 1))).2 (by rw [h1]; exact he)
  have e : (l.take k ++ [x]) ++ l.drop (k + 1) = l := by rw [← hx', List.take_append_getElem hk, List.take_append_drop]
  rw [e, h1] at g1
  rw [e, h2] at g2
  exact ⟨g1, g2⟩
theorem run_next {S : St} {l : List Stp} {k : Nat} {x : Stp} (h : runE S (l.take k) = 0) (hx : l[k]? = some x) (he : stpE (runS S (l.take k)) x = 0) : runE S (l.take (k + 1)) = 0 ∧ runS S (l.take (k + 1)) = stpS (runS S (l.take k)) x := by
  have hk : k < l.length := (List.getElem?_eq_some_iff.1 hx).1
  have hx' : l[k] = x := (List.getElem?_eq_some_iff.1 hx).2
  obtain ⟨h1, h2⟩ := run_snoc h x
  rw [← hx', List.take_append_getElem hk] at h1 h2
  rw [h1, h2, hx']
  exact ⟨he, rfl⟩

set_option maxHeartbeats 1600000 in
theorem bring1_any {w : World} {F : Nat → Prop} {p s sb ab bb a : Nat} {S : St} {ba : Option Addr} {bl bc : Nat} {ys : List Int} (hd : Dev w F p S) (c1 : w.cell? ⟨sb, 0, none⟩ = some (.pointer (some ⟨s, 0, none⟩))) (c0 : w.cell? ⟨s, 0, none⟩ = some (.pointer (some ⟨p, 0, none⟩)))
    (c2 : w.cell? ⟨ab, 0, none⟩ = some (.int .i64 (a : Int))) (c3 : w.cell? ⟨bb, 0, none⟩ = some (.slice ba bl bc)) (hs : Sl .u8 w ba bl bc ys) (hby : Bytes ys) (ha : a ≤ 262144) (hc9 : bc ≤ 9223372036854775807) (hno : 0 < bl → ∀ c, ba = some c → ¬ F c.block)
    (f1 : ¬ F sb) (f0 : ¬ F s) (f2 : ¬ F ab) (f3 : ¬ F bb) :
    Calls Try.prog 84 #[.pointer (some ⟨sb, 0, none⟩), .pointer (some ⟨ab, 0, none⟩), .pointer (some ⟨bb, 0, none⟩)] w fun e w' => e = .returned (.int .i64 (stpE S (.st a ys))) ∧ ∃ F', Dev w' F' p (stpS S (.st a ys)) ∧ Goes F w F' w' := by
  have hlen := hs.len
  have hRg : Rg (a : Int) := by unfold Rg; omega
  have hd' : Dev w.drew F p S := hd.below (below_drew (Below.refl _ _))
  have hs' := hs.below (below_drew (Below.refl _ _))
  have cS := store_does hd' (a : Int) ba bl bc ys hRg hs' hby hc9 hno
  rw [Int.toNat_natCast] at cS
  have lt : ∀ {b : Nat} {v : Value}, w.cell? ⟨b, 0, none⟩ = some v → b < w.heap.size := fun {b v} h => World.block_lt_of_cell? w _ h
  have l1 := lt c1
  have l0 := lt c0
  have l2 := lt c2
  have l3 := lt c3
  have HX : Hid (stpE S (.st a ys) = stepE S a bl ∧ stpS S (.st a ys) = Does (fun T => storeS T a ys) S a bl) := by unfold stpE stpS; simp only; rw [hlen]; exact ⟨rfl, rfl⟩
  have HL := hid (And.intro l1 (And.intro l0 (And.intro l2 l3)))
  have HFF := hid (And.intro f1 (And.intro f0 (And.intro f2 f3)))
  clear hs hd hs' hd' hno lt l1 l0 l2 l3 f1 f0 f2 f3 hlen hby
  go_enter Try.func84, Try.ntmps84
  go_wp2_with fail
  refine wp_region_held_drew (S := fun w' => w'.cell? ⟨sb, 0, none⟩ = some (.pointer (some ⟨s, 0, none⟩)) ∧ w'.cell? ⟨s, 0, none⟩ = some (.pointer (some ⟨p, 0, none⟩)) ∧ w'.cell? ⟨ab, 0, none⟩ = some (.int .i64 (a : Int)) ∧ w'.cell? ⟨bb, 0, none⟩ = some (.slice ba bl bc)) (by kernel_rfl) ⟨c1, c0, c2, c3⟩ (fun hH => ?_)
  refine wpAnyH_take (i := 0) (v := ?_) (List.getElem?_toArray.trans rfl) (by kernel_rfl) (by kernel_rfl) (by kernel_rfl) (fun _ _ _ h => h) (Or.inl ⟨by rfl, ?_⟩) (by assumption) ?_
  rotate_left
  · (intro w hSw; obtain ⟨h1, h2, h3, h4⟩ := hSw; go_simp; try (with_reducible rfl))
  simp only [Act.put, List.setIfInBounds_toArray, List.set_cons_zero, List.set_cons_succ]
  refine wpAnyH_take (i := 1) (v := ?_) (List.getElem?_toArray.trans rfl) (by kernel_rfl) (by kernel_rfl) (by kernel_rfl) (fun _ _ _ h => h) (Or.inl ⟨by rfl, ?_⟩) (by assumption) ?_
  rotate_left
  · (intro w hSw; obtain ⟨h1, h2, h3, h4⟩ := hSw; go_simp; try (with_reducible rfl))
  simp only [Act.put, List.setIfInBounds_toArray, List.set_cons_zero, List.set_cons_succ]
  refine wpAnyH_take (i := 2) (v := ?_) (List.getElem?_toArray.trans rfl) (by kernel_rfl) (by kernel_rfl) (by kernel_rfl) (fun _ _ _ h => h) (Or.inl ⟨by rfl, ?_⟩) (by assumption) ?_
  rotate_left
  · (intro w hSw; obtain ⟨h1, h2, h3, h4⟩ := hSw; go_simp; try (with_reducible rfl))
  simp only [Act.put, List.setIfInBounds_toArray, List.set_cons_zero, List.set_cons_succ]
  refine wpAnyH_take (i := 3) (v := ?_) (List.getElem?_toArray.trans rfl) (by kernel_rfl) (by kernel_rfl) (by kernel_rfl) (fun _ _ _ h => h) (Or.inl ⟨by rfl, ?_⟩) (by assumption) ?_
  rotate_left
  · (intro w hSw; obtain ⟨h1, h2, h3, h4⟩ := hSw; go_simp; try (with_reducible rfl))
  simp only [Act.put, List.setIfInBounds_toArray, List.set_cons_zero, List.set_cons_succ]
  refine wpAnyH_take (i := 4) (v := ?_) (List.getElem?_toArray.trans rfl) (by kernel_rfl) (by kernel_rfl) (by kernel_rfl) (fun _ _ _ h => h) (Or.inl ⟨by rfl, ?_⟩) (by assumption) ?_
  rotate_left
  · (intro w hSw; obtain ⟨h1, h2, h3, h4⟩ := hSw; go_simp; try (with_reducible rfl))
  simp only [Act.put, List.setIfInBounds_toArray, List.set_cons_zero, List.set_cons_succ]
  refine wpAnyH_take (i := 5) (v := ?_) (List.getElem?_toArray.trans rfl) (by kernel_rfl) (by kernel_rfl) (by kernel_rfl) (fun _ _ _ h => h) (Or.inl ⟨by rfl, ?_⟩) (by assumption) ?_
  rotate_left
  · (intro w hSw; obtain ⟨h1, h2, h3, h4⟩ := hSw; go_simp; try (with_reducible rfl))
  simp only [Act.put, List.setIfInBounds_toArray, List.set_cons_zero, List.set_cons_succ]
  refine wpAnyH_ready (rs := [6]) (by kernel_rfl) (by simp) ?_
  refine AllReadyH.cons (List.getElem?_toArray.trans rfl) (fun K3 hK3 => ?_) AllReadyH.nil
  go_simp
  refine cS.mono ?_
  rintro e w4 ⟨rfl, F', d4, g4⟩
  dsimp only
  refine hK3.out _ _ ?_ (fun hHeld3 => ?_)
  · obtain ⟨l1, l0, l2, l3⟩ := HL.out
    obtain ⟨f1, f0, f2, f3⟩ := HFF.out
    exact ⟨(World.cell?_of_block (a := ⟨sb, 0, none⟩) (g4.off.block sb l1 f1)).trans c1, (World.cell?_of_block (a := ⟨s, 0, none⟩) (g4.off.block s l0 f0)).trans c0, (World.cell?_of_block (a := ⟨ab, 0, none⟩) (g4.off.block ab l2 f2)).trans c2, (World.cell?_of_block (a := ⟨bb, 0, none⟩) (g4.off.block bb l3 f3)).trans c3⟩
  clear hK3 K3
  refine wpAnyH_ready (rs := [7]) (by kernel_rfl) (by simp) ?_
  refine AllReadyH.cons (List.getElem?_toArray.trans rfl) (fun K4 hK4 => ?_) AllReadyH.nil
  go_simp
  refine hK4.out _ _ hHeld3 (fun hHeld4 => ?_)
  clear hK4 K4
  refine wpAnyH_done (by kernel_rfl) ?_ _
  go_wp2
  go_ret
  rw [HX.out.1, HX.out.2]
  exact ⟨rfl, F', d4, (Goes.of_below (below_drew (Below.refl _ _))).trans g4⟩
set_option maxHeartbeats 1600000 in
theorem bring2_any {w : World} {F : Nat → Prop} {p s sb ab bb a : Nat} {S : St} {ba : Option Addr} {bl bc : Nat} {ys : List Int} (hd : Dev w F p S) (c1 : w.cell? ⟨sb, 0, none⟩ = some (.pointer (some ⟨s, 0, none⟩))) (c0 : w.cell? ⟨s, 0, none⟩ = some (.pointer (some ⟨p, 0, none⟩)))
    (c2 : w.cell? ⟨ab, 0, none⟩ = some (.int .i64 (a : Int))) (c3 : w.cell? ⟨bb, 0, none⟩ = some (.slice ba bl bc)) (hs : Sl .u8 w ba bl bc ys) (hby : Bytes ys) (ha : a ≤ 262144) (hc9 : bc ≤ 9223372036854775807) (hno : 0 < bl → ∀ c, ba = some c → ¬ F c.block)
    (f1 : ¬ F sb) (f0 : ¬ F s) (f2 : ¬ F ab) (f3 : ¬ F bb) :
    Calls Try.prog 86 #[.pointer (some ⟨sb, 0, none⟩), .pointer (some ⟨ab, 0, none⟩), .pointer (some ⟨bb, 0, none⟩)] w fun e w' => e = .returned (.int .i64 (stpE S (.fl a bl))) ∧ ∃ F', Dev w' F' p (stpS S (.fl a bl)) ∧ Goes F w F' w' := by
  have hlen := hs.len
  have hRg : Rg (a : Int) := by unfold Rg; omega
  have hd' : Dev w.drew F p S := hd.below (below_drew (Below.refl _ _))
  have hs' := hs.below (below_drew (Below.refl _ _))
  have hRb : Rg (bl : Int) := by have := hs.room; unfold Rg; omega
  have cS := flush_does hd' (a : Int) (bl : Int) hRg hRb
  rw [Int.toNat_natCast, Int.toNat_natCast] at cS
  have lt : ∀ {b : Nat} {v : Value}, w.cell? ⟨b, 0, none⟩ = some v → b < w.heap.size := fun {b v} h => World.block_lt_of_cell? w _ h
  have l1 := lt c1
  have l0 := lt c0
  have l2 := lt c2
  have l3 := lt c3
  have HX : Hid (stpE S (.fl a bl) = stepE S a bl ∧ stpS S (.fl a bl) = Does (fun T => flushS T (lineA a bl) (lineB a bl)) S a bl) := ⟨rfl, rfl⟩
  have HL := hid (And.intro l1 (And.intro l0 (And.intro l2 l3)))
  have HFF := hid (And.intro f1 (And.intro f0 (And.intro f2 f3)))
  clear hs hd hs' hd' hno lt l1 l0 l2 l3 f1 f0 f2 f3 hlen hby
  go_enter Try.func86, Try.ntmps86
  go_wp2_with fail
  refine wp_region_held_drew (S := fun w' => w'.cell? ⟨sb, 0, none⟩ = some (.pointer (some ⟨s, 0, none⟩)) ∧ w'.cell? ⟨s, 0, none⟩ = some (.pointer (some ⟨p, 0, none⟩)) ∧ w'.cell? ⟨ab, 0, none⟩ = some (.int .i64 (a : Int)) ∧ w'.cell? ⟨bb, 0, none⟩ = some (.slice ba bl bc)) (by kernel_rfl) ⟨c1, c0, c2, c3⟩ (fun hH => ?_)
  refine wpAnyH_take (i := 0) (v := ?_) (List.getElem?_toArray.trans rfl) (by kernel_rfl) (by kernel_rfl) (by kernel_rfl) (fun _ _ _ h => h) (Or.inl ⟨by rfl, ?_⟩) (by assumption) ?_
  rotate_left
  · (intro w hSw; obtain ⟨h1, h2, h3, h4⟩ := hSw; go_simp; try (with_reducible rfl))
  simp only [Act.put, List.setIfInBounds_toArray, List.set_cons_zero, List.set_cons_succ]
  refine wpAnyH_take (i := 1) (v := ?_) (List.getElem?_toArray.trans rfl) (by kernel_rfl) (by kernel_rfl) (by kernel_rfl) (fun _ _ _ h => h) (Or.inl ⟨by rfl, ?_⟩) (by assumption) ?_
  rotate_left
  · (intro w hSw; obtain ⟨h1, h2, h3, h4⟩ := hSw; go_simp; try (with_reducible rfl))
  simp only [Act.put, List.setIfInBounds_toArray, List.set_cons_zero, List.set_cons_succ]
  refine wpAnyH_take (i := 2) (v := ?_) (List.getElem?_toArray.trans rfl) (by kernel_rfl) (by kernel_rfl) (by kernel_rfl) (fun _ _ _ h => h) (Or.inl ⟨by rfl, ?_⟩) (by assumption) ?_
  rotate_left
  · (intro w hSw; obtain ⟨h1, h2, h3, h4⟩ := hSw; go_simp; try (with_reducible rfl))
  simp only [Act.put, List.setIfInBounds_toArray, List.set_cons_zero, List.set_cons_succ]
  refine wpAnyH_take (i := 3) (v := ?_) (List.getElem?_toArray.trans rfl) (by kernel_rfl) (by kernel_rfl) (by kernel_rfl) (fun _ _ _ h => h) (Or.inl ⟨by rfl, ?_⟩) (by assumption) ?_
  rotate_left
  · (intro w hSw; obtain ⟨h1, h2, h3, h4⟩ := hSw; go_simp; try (with_reducible rfl))
  simp only [Act.put, List.setIfInBounds_toArray, List.set_cons_zero, List.set_cons_succ]
  refine wpAnyH_take (i := 4) (v := ?_) (List.getElem?_toArray.trans rfl) (by kernel_rfl) (by kernel_rfl) (by kernel_rfl) (fun _ _ _ h => h) (Or.inl ⟨by rfl, ?_⟩) (by assumption) ?_
  rotate_left
  · (intro w hSw; obtain ⟨h1, h2, h3, h4⟩ := hSw; go_simp; try (with_reducible rfl))
  simp only [Act.put, List.setIfInBounds_toArray, List.set_cons_zero, List.set_cons_succ]
  refine wpAnyH_take (i := 5) (v := ?_) (List.getElem?_toArray.trans rfl) (by kernel_rfl) (by kernel_rfl) (by kernel_rfl) (fun _ _ _ h => h) (Or.inl ⟨by rfl, ?_⟩) (by assumption) ?_
  rotate_left
  · (intro w hSw; obtain ⟨h1, h2, h3, h4⟩ := hSw; go_simp; try (with_reducible rfl))
  simp only [Act.put, List.setIfInBounds_toArray, List.set_cons_zero, List.set_cons_succ]
  refine wpAnyH_take (i := 6) (v := ?_) (List.getElem?_toArray.trans rfl) (by kernel_rfl) (by kernel_rfl) (by kernel_rfl) (fun _ _ _ h => h) (Or.inl ⟨by rfl, ?_⟩) (by assumption) ?_
  rotate_left
  · (intro w hSw; obtain ⟨h1, h2, h3, h4⟩ := hSw; go_simp; try (with_reducible rfl))
  simp only [Act.put, List.setIfInBounds_toArray, List.set_cons_zero, List.set_cons_succ]
  refine wpAnyH_ready (rs := [7]) (by kernel_rfl) (by simp) ?_
  refine AllReadyH.cons (List.getElem?_toArray.trans rfl) (fun K3 hK3 => ?_) AllReadyH.nil
  go_simp
  refine cS.mono ?_
  rintro e w4 ⟨rfl, d4, g4⟩
  dsimp only
  refine hK3.out _ _ ?_ (fun hHeld3 => ?_)
  · obtain ⟨l1, l0, l2, l3⟩ := HL.out
    obtain ⟨f1, f0, f2, f3⟩ := HFF.out
    exact ⟨(World.cell?_of_block (a := ⟨sb, 0, none⟩) (g4.off.block sb l1 f1)).trans c1, (World.cell?_of_block (a := ⟨s, 0, none⟩) (g4.off.block s l0 f0)).trans c0, (World.cell?_of_block (a := ⟨ab, 0, none⟩) (g4.off.block ab l2 f2)).trans c2, (World.cell?_of_block (a := ⟨bb, 0, none⟩) (g4.off.block bb l3 f3)).trans c3⟩
  clear hK3 K3
  refine wpAnyH_ready (rs := [8]) (by kernel_rfl) (by simp) ?_
  refine AllReadyH.cons (List.getElem?_toArray.trans rfl) (fun K4 hK4 => ?_) AllReadyH.nil
  go_simp
  refine hK4.out _ _ hHeld3 (fun hHeld4 => ?_)
  clear hK4 K4
  refine wpAnyH_done (by kernel_rfl) ?_ _
  go_wp2
  go_ret
  rw [HX.out.1, HX.out.2]
  exact ⟨rfl, F, d4, (Goes.of_below (below_drew (Below.refl _ _))).trans g4⟩

/-- No block of the device is one of the steps'. -/
def Free (F K : Nat → Prop) (s : Nat) (ro : Option Addr) : Prop := ∀ j, F j → ¬ K j ∧ j ≠ s ∧ ∀ r, ro = some r → j ≠ r.block
theorem StepsAt.free {w : World} {F K : Nat → Prop} {s p : Nat} {ro : Option Addr} {n rc : Nat} {fs : List Value} {xs : List Stp} (h : StepsAt w F K s p ro n rc fs xs) : Free F K s ro ∧ StepsAt w (fun _ => False) K s p ro n rc fs xs :=
  ⟨fun j hj => ⟨fun hk => (h.kb j hk).2.2.1 hj, by have := h.fb j hj; omega, fun r hr => by have := h.fb j hj; have := (h.rb hr).1; omega⟩,
   h.same (Nat.le_refl _) (fun _ _ => rfl) (fun _ h => h.elim) (fun _ _ h => h)⟩
theorem StepsAt.goes {w w' : World} {F F' K : Nat → Prop} {s p : Nat} {ro : Option Addr} {n rc : Nat} {fs : List Value} {xs : List Stp} (h : StepsAt w (fun _ => False) K s p ro n rc fs xs) (hf : Free F K s ro) (g : Goes F w F' w') : StepsAt w' (fun _ => False) K s p ro n rc fs xs ∧ Free F' K s ro := by
  refine ⟨h.same g.off.size (fun j hj => g.off.block j ?_ (fun hfj => ?_)) (fun _ h => h.elim) (fun _ _ h => h), fun j hj => ?_⟩
  · rcases hj with h1 | rfl | ⟨r, h1, rfl⟩
    · exact (h.kb j h1).1
    · exact h.lt
    · exact (h.rb h1).2
  · obtain ⟨a1, a2, a3⟩ := hf j hfj
    rcases hj with h1 | rfl | ⟨r, h1, rfl⟩
    · exact a1 h1
    · exact a2 rfl
    · exact a3 r h1 rfl
  · rcases g.new j hj with h1 | h1
    · exact hf j h1
    · exact ⟨fun hk => by have := (h.kb j hk).1; omega, by have := h.lt; omega, fun r hr => by have := (h.rb hr).2; omega⟩
theorem cell_one {w : World} {b : Nat} {v : Value} {T : TypeId} (h : w.heap[b]? = some (oneObj v T)) : w.cell? ⟨b, 0, none⟩ = some v := by simp [World.cell?, h, oneObj]
theorem row_cell {w : World} {B e : Nat} {ro : Option Addr} {n rc : Nat} {fs : List Value} (h : w.ownsRow B e 1 (.slice ro n rc) n fs) {k : Nat} {v : Value} (hk : k < n) (hv : fs[k]? = some v) : ∃ g, ro = some ⟨g, 0, none⟩ ∧ w.cell? ⟨g, k, none⟩ = some v ∧ n ≤ rc ∧ rc ≤ 9223372036854775807 := by
  have h' := h
  rcases h.2 with ⟨_, h0⟩ | ⟨g, cap', cur, hv', hg, hh, hc, hm, r⟩
  · omega
  · simp only [Value.slice.injEq] at hv'
    obtain ⟨rfl, _, rfl⟩ := hv'
    refine ⟨g, rfl, ?_, hc, by simpa [maxLen] using hm⟩
    rw [h'.cellAt k (by omega)]
    exact hv
set_option maxHeartbeats 3200000 in
theorem srun_any {w : World} {F K : Nat → Prop} {p s : Nat} {ro : Option Addr} {n rc : Nat} {fs : List Value} {xs : List Stp} {S : St} (hs : StepsAt w F K s p ro n rc fs xs) (hd : Dev w F p S) (hn9 : n ≤ 1000000) :
    Calls Try.prog 52 #[.pointer (some ⟨s, 0, none⟩)] w fun e w' => e = .returned (.int .i64 (runE S xs)) ∧ ∃ F', Dev w' F' p (runS S xs) ∧ Goes F w F' w' := by
  obtain ⟨hf, h⟩ := hs.free
  obtain ⟨c0, c1⟩ := h.cells
  have hlx := h.lx
  have hlf := h.lf
  clear hs
  go_enter Try.func52, Try.ntmps52
  go_wp2
  go_loopw [11] (fun t wr => ∃ (k : Nat) (F' : Nat → Prop), k ≤ n ∧ t = .int .i64 k ∧ StepsAt wr (fun _ => False) K s p ro n rc fs xs ∧ Free F' K s ro ∧ Dev wr F' p (runS S (xs.take k)) ∧ runE S (xs.take k) = 0 ∧ Goes F w F' wr) (fun t _ => n - (intOf t).toNat)
  case atStart => exact ⟨0, F, Nat.zero_le _, rfl, h, hf, hd, rfl, Goes.refl _ _⟩
  case round =>
    clear h hf hd c0 c1
    obtain ⟨k, F', hk, rfl, h, hf, hd, h0, hg⟩ := hrel
    by_cases hlt : k < n
    · obtain ⟨x, hx⟩ : ∃ x, xs[k]? = some x := ⟨_, List.getElem?_eq_getElem (by omega)⟩
      obtain ⟨v, hv⟩ : ∃ v, fs[k]? = some v := ⟨_, List.getElem?_eq_getElem (by omega)⟩
      obtain ⟨g, rfl, cv, hr1, hr2⟩ := row_cell h.row hlt hv
      have hki : (k : Int) < (n : Int) := by omega
      have hE := h.each k x v hx hv
      have fK : ∀ j, K j → ¬ F' j := fun j hj hfj => (hf j hfj).1 hj
      have fs0 : ¬ F' s := fun hfj => (hf s hfj).2.1 rfl
      obtain ⟨T, hT⟩ : ∃ T, T = runS S (xs.take k) := ⟨_, rfl⟩
      rw [← hT] at hd
      have HT := hid hT
      have H0 := hid h0
      have HS := hid h
      have HF := hid hf
      have HG := hid hg
      have c0' := h.cells.1
      clear hT h0 hf hg hlx hlf
      cases x with
      | st a ys =>
        obtain ⟨sb, ab, bb, ba, bl, bc, rfl, c⟩ := hE
        have cS := bring1_any hd (cell_one c.os) c0' (cell_one c.oa) (cell_one c.ob) c.sl c.by_ c.a9 c.c9 (fun hn q hq => fK _ (c.kd hn q hq)) (fK _ c.ks) fs0 (fK _ c.ka) (fK _ c.kb)
        clear c h hd fK fs0 c0'
        by_cases hE : stpE T (.st a ys) = 0
        · obtain ⟨n1, n2⟩ := run_next H0.out hx (by rw [← HT.out]; exact hE)
          have HN1 := hid (And.intro n1 n2)
          rw [hE] at cS
          clear n1 n2
          go_wp2_with (go_at_call 84; with_reducible refine cS.mono ?_; rintro e w3 ⟨rfl, F3, d3, g3⟩)
          go_roundw
          case rel =>
            obtain ⟨k1, k2⟩ := HS.out.goes HF.out g3
            exact ⟨k + 1, F3, by omega, by go_num, k1, k2, (by rw [HN1.out.2, ← HT.out]; exact d3), HN1.out.1, HG.out.trans g3⟩
          case measure => simp [intOf]; omega
        · obtain ⟨n1, n2⟩ := run_stops H0.out hx (by rw [← HT.out]; exact hE)
          have HN1 := hid (And.intro n1 n2)
          clear n1 n2
          have hE' : (stpE T (.st a ys) != 0) = true := by simpa using hE
          obtain ⟨EE, hEE⟩ : ∃ EE, EE = stpE T (.st a ys) := ⟨_, rfl⟩
          rw [← hEE] at cS hE'
          have HEE := hid hEE
          clear hEE hE
          go_wp2_with (go_at_call 84; with_reducible refine cS.mono ?_; rintro e w3 ⟨rfl, F3, d3, g3⟩)
          go_ret
          rw [HN1.out.1, HN1.out.2, ← HT.out, ← HEE.out]
          exact ⟨rfl, F3, d3, HG.out.trans g3⟩
      | fl a m =>
        obtain ⟨sb, ab, bb, ba, bc, ys, rfl, c⟩ := hE
        have cS := bring2_any hd (cell_one c.os) c0' (cell_one c.oa) (cell_one c.ob) c.sl c.by_ c.a9 c.c9 (fun hn q hq => fK _ (c.kd hn q hq)) (fK _ c.ks) fs0 (fK _ c.ka) (fK _ c.kb)
        clear c h hd fK fs0 c0'
        by_cases hE : stpE T (.fl a m) = 0
        · obtain ⟨n1, n2⟩ := run_next H0.out hx (by rw [← HT.out]; exact hE)
          have HN1 := hid (And.intro n1 n2)
          rw [hE] at cS
          clear n1 n2
          go_wp2_with (go_at_call 86; with_reducible refine cS.mono ?_; rintro e w3 ⟨rfl, F3, d3, g3⟩)
          go_roundw
          case rel =>
            obtain ⟨k1, k2⟩ := HS.out.goes HF.out g3
            exact ⟨k + 1, F3, by omega, by go_num, k1, k2, (by rw [HN1.out.2, ← HT.out]; exact d3), HN1.out.1, HG.out.trans g3⟩
          case measure => simp [intOf]; omega
        · obtain ⟨n1, n2⟩ := run_stops H0.out hx (by rw [← HT.out]; exact hE)
          have HN1 := hid (And.intro n1 n2)
          clear n1 n2
          have hE' : (stpE T (.fl a m) != 0) = true := by simpa using hE
          obtain ⟨EE, hEE⟩ : ∃ EE, EE = stpE T (.fl a m) := ⟨_, rfl⟩
          rw [← hEE] at cS hE'
          have HEE := hid hEE
          clear hEE hE
          go_wp2_with (go_at_call 86; with_reducible refine cS.mono ?_; rintro e w3 ⟨rfl, F3, d3, g3⟩)
          go_ret
          rw [HN1.out.1, HN1.out.2, ← HT.out, ← HEE.out]
          exact ⟨rfl, F3, d3, HG.out.trans g3⟩
      | fe =>
        obtain rfl := hE
        have cS : Calls Try.prog 73 #[.pointer (some ⟨p, 0, none⟩)] wr fun e w' => e = .returned (.int .i64 (stpE T .fe)) ∧ ∃ F3, Dev w' F3 p (stpS T .fe) ∧ Goes F' wr F3 w' := (fence_does hd).mono fun e w' ⟨h1, h2, h3⟩ => ⟨h1, F', h2, h3⟩
        clear h hd fK fs0 c0'
        by_cases hE : stpE T .fe = 0
        · obtain ⟨n1, n2⟩ := run_next H0.out hx (by rw [← HT.out]; exact hE)
          have HN1 := hid (And.intro n1 n2)
          rw [hE] at cS
          clear n1 n2
          go_wp2_with (go_at_call 73; with_reducible refine cS.mono ?_; rintro e w3 ⟨rfl, F3, d3, g3⟩)
          go_roundw
          case rel =>
            obtain ⟨k1, k2⟩ := HS.out.goes HF.out g3
            exact ⟨k + 1, F3, by omega, by go_num, k1, k2, (by rw [HN1.out.2, ← HT.out]; exact d3), HN1.out.1, HG.out.trans g3⟩
          case measure => simp [intOf]; omega
        · obtain ⟨n1, n2⟩ := run_stops H0.out hx (by rw [← HT.out]; exact hE)
          have HN1 := hid (And.intro n1 n2)
          clear n1 n2
          have hE' : (stpE T .fe != 0) = true := by simpa using hE
          obtain ⟨EE, hEE⟩ : ∃ EE, EE = stpE T .fe := ⟨_, rfl⟩
          rw [← hEE] at cS hE'
          have HEE := hid hEE
          clear hEE hE
          go_wp2_with (go_at_call 73; with_reducible refine cS.mono ?_; rintro e w3 ⟨rfl, F3, d3, g3⟩)
          go_ret
          rw [HN1.out.1, HN1.out.2, ← HT.out, ← HEE.out]
          exact ⟨rfl, F3, d3, HG.out.trans g3⟩
    · obtain rfl : k = n := by omega
      rw [List.take_of_length_le (by omega)] at hd h0
      have H0 := hid h0
      clear h0 h
      go_wp2
      go_ret
      rw [H0.out]
      exact ⟨rfl, F', hd, hg⟩
end Go.Proofs.Ytgiippbjieecmaa
