/- HpD · HpE: these texts, one behind another. -/
import Derived.Test.YtpbljjbhfhfmgaaGreatDoorMxHpC
import Derived.Deep.WholeRow
import Derived.Deep.Cut
import Derived.Test.YtpbljjbhfhfmgaaGreatDoorMxOff
import Derived.Laws.CopyOwn
/- pages.lay by its contract. -/
namespace Go.Proofs.YtpbljjbhfhfmgaaGreatDoor
set_option maxRecDepth 100000
open Go.RowKit Go.Shelf
set_option linter.unusedVariables false
set_option linter.unusedSimpArgs false
set_option maxRecDepth 100000

theorem hp_zero (w : World) : (zeroValue 135).run Tryz.prog w = .ok (.agg (hpC 0 hp0)) w := (zero_of_info hp_info).1 w
/-- A whole heap stored into a block that holds one. -/
theorem run_hpStore (w : World) (g : Nat) (old new : Array Value) (h : w.heap[g]? = some (.cells old 135 (0, 0))) (ho : old.size = 2113) (hn : new.size = 2113) (h1 : new.all (·.oneCell') = true) :
    (storeCells ⟨g, 0, none⟩ new.toList 0).run Tryz.prog w = .ok () (w.setRow g new) := by
  have hs := hp_size
  have := run_storeVar_row (P := Tryz.prog) w g 135 135 old new h (by rw [hn]; exact hs) (by omega) h1
  cases hq : Tryz.prog.info? 135 with
  | none => rw [hq] at hs; cases hs
  | some i =>
    have hs' : new.size = i.size := by rw [hq] at hs; simp at hs; omega
    simpa [storeVar, sizeOf, typeInfo, hq, Value.cells, hs'] using this
theorem setRow_same (w : World) (g : Nat) (c : Array Value) (t : TypeId) (h : w.heap[g]? = some (.cells c t (0, 0))) : w.setRow g c = w := by
  simp only [World.setRow]
  congr 1
  apply Array.ext_getElem?
  intro i
  rw [Array.getElem?_modify]
  by_cases e : g = i
  · subst e
    rw [if_pos rfl, h]
    rfl
  · rw [if_neg e]
theorem run_hpLoad (w : World) (g : Nat) (c : Array Value) (h : w.heap[g]? = some (.cells c 135 (0, 0))) (hc : c.size = 2113) : (loadVar 135 ⟨g, 0, none⟩).run Tryz.prog w = .ok (.agg c) w :=
  run_loadVar_row w g 135 135 c (0, 0) _ h Tryz.underlying135 rfl (by rw [hc]; exact hp_size)
theorem run_hpCells (w : World) (g : Nat) (c : Array Value) (h : w.heap[g]? = some (.cells c 135 (0, 0))) (hc : c.size = 2113) : (loadCellsFrom ⟨g, 0, none⟩ 0 2113 #[]).run Tryz.prog w = .ok c w := by
  have := run_loadCells_list (P := Tryz.prog) w ⟨g, 0, none⟩ c.toList (fun j v hv => by
    have hadd : (⟨g, 0, none⟩ : Addr).add j = ⟨g, j, none⟩ := by unfold Addr.add; split <;> simp_all
    rw [hadd, cell_of_row w g j c 135 (0, 0) h]
    simpa using hv)
  simpa [loadCells, hc] using this
theorem run_boolLoad (w : World) (g : Nat) (b : Bool) (h : w.cell? ⟨g, 0, none⟩ = some (.bool b)) : (loadVar 4 ⟨g, 0, none⟩).run Tryz.prog w = .ok (.bool b) w := by
  simp [loadVar, go_sem, isAgg, Tryz.underlying4, h]
theorem results_two {fn : Func} {p q : Tmp} {ty tq : TypeId} (h : fn.results = #[.cell p ty, .cell q tq]) (tmps : Array Value) (w : World) (a b : Addr) (v u : Value)
    (hp : tmps.getD p undef = .pointer (some a)) (hq : tmps.getD q undef = .pointer (some b)) (h1 : (loadVar ty a).run Tryz.prog w = .ok v w) (h2 : (loadVar tq b).run Tryz.prog w = .ok u w) : (results fn tmps).run Tryz.prog w = .ok (.tuple #[v, u]) w := by
  have hp' : tmps[p]?.getD undef = .pointer (some a) := by simpa using hp
  have hq' : tmps[q]?.getD undef = .pointer (some b) := by simpa using hq
  simp [results, h, hp', hq', asAddr, h1, h2]
set_option maxHeartbeats 1000000 in
theorem hpLay_out (P : Int) (ao : Option Addr) (n cap : Nat) (w : World) (hP : ¬ (0 ≤ P ∧ P ≤ 64)) :
    Calls Tryz.prog 102 #[.int .i64 P, .slice ao n cap] w fun e w' => e = .returned (.tuple #[.agg (hpC 0 hp0), .bool false]) ∧ Below w.heap.size w w' := by
  have hz := hp_zero
  have hd : P < 0 ∨ (¬ P < 0 ∧ 64 < P) := by omega
  obtain ⟨Z, hZ⟩ : ∃ Z, hpC 0 hp0 = Z := ⟨_, rfl⟩
  have hZs : Z.size = 2113 := by rw [← hZ]; exact hpC_size _ _
  have hZ1 : Z.all (·.oneCell') = true := by rw [← hZ]; exact hpC_one _ _
  rw [hZ] at hz
  rw [hZ]
  have hZn : ¬ Z = #[] := fun e => by rw [e] at hZs; cases hZs
  have hblk : (((w.alloc (.cells Z 135)).alloc (.cells #[.bool false] 4))).heap[w.heap.size]? = some (.cells Z 135 (0, 0)) := by
    rw [heap_alloc_old _ _ (by simp)]; exact heap_alloc_new w _
  have hbl : (((w.alloc (.cells Z 135)).alloc (.cells #[.bool false] 4))).cell? ⟨w.heap.size + 1, 0, none⟩ = some (.bool false) := by
    have := heap_alloc_new (w.alloc (.cells Z 135)) (.cells #[.bool false] 4)
    rw [World.size_alloc] at this
    rw [cell_of_row _ (w.heap.size + 1) 0 _ 4 (0, 0) this]; rfl
  have hbe : Below w.heap.size w (((w.alloc (.cells Z 135)).alloc (.cells #[.bool false] 4))) := ((Below.refl _ _).alloc (Nat.le_refl _) _).alloc (by simp) _
  have hst := run_hpStore _ w.heap.size Z Z hblk hZs hZs hZ1
  rw [setRow_same _ _ _ _ hblk] at hst
  clear hP hZ
  rcases hd with h1 | ⟨h1, h2⟩
  · go_enter Tryz.func102, Tryz.ntmps102
    go_wp2
    refine bodyPost_ret (results_two rfl _ _ ⟨w.heap.size, 0, none⟩ ⟨w.heap.size + 1, 0, none⟩ _ _ rfl rfl (run_hpLoad _ _ Z hblk hZs) (run_boolLoad _ _ false hbl)) rfl ?_
    exact ⟨rfl, hbe⟩
  · go_enter Tryz.func102, Tryz.ntmps102
    go_wp2
    refine bodyPost_ret (results_two rfl _ _ ⟨w.heap.size, 0, none⟩ ⟨w.heap.size + 1, 0, none⟩ _ _ rfl rfl (run_hpLoad _ _ Z hblk hZs) (run_boolLoad _ _ false hbl)) rfl ?_
    exact ⟨rfl, hbe⟩
/-- Pages made free, one by one. -/
def hpk (k : Nat) : HpS := ⟨fun i => if i < k then -1 else 0, fun _ _ => false⟩
theorem Hpb.next {w : World} {b N k : Nat} (h : Hpb w b N (hpk k)) (hk : k < N) (hN : N ≤ 64) : Hpb (w.setCell ⟨b, k * 33, none⟩ (.int .i64 (-1))) b N (hpk (k + 1)) := by
  refine (h.setK hk hN (-1)).eq (fun i hi => ?_) (fun i j _ _ => rfl)
  show (if i = k then -1 else if i < k then -1 else 0) = if i < k + 1 then (-1 : Int) else 0
  by_cases e : i = k
  · rw [if_pos e, if_pos (by omega)]
  · rw [if_neg e]
    by_cases c : i < k
    · rw [if_pos c, if_pos (by omega)]
    · rw [if_neg c, if_neg (by omega)]
/-- The variables of lay. -/
structure LyI (w : World) (N : Nat) (s : HpS) (W : World) : Prop where
  res : W.heap[w.heap.size]? = some (.cells (hpC 0 hp0) 135 (0, 0))
  rb : W.heap[w.heap.size + 1]? = some (.cells #[.bool false] 4 (0, 0))
  hp : Hpb W (w.heap.size + 2) N s
  low : Below w.heap.size w W
theorem LyI.lt {w : World} {N : Nat} {s : HpS} {W : World} (h : LyI w N s W) : w.heap.size + 2 < W.heap.size := h.hp.lt
theorem LyI.to {w : World} {N : Nat} {s : HpS} {W W' : World} (h : LyI w N s W) {F : Nat → Prop} (ho : Off F W W') (hF : ∀ j, F j → w.heap.size + 3 ≤ j) : LyI w N s W' := by
  have hl := h.lt
  have no : ∀ j, j < w.heap.size + 3 → ¬ F j := fun j hj hf => by have := hF j hf; omega
  exact ⟨(ho.block _ (by omega) (no _ (by omega))).trans h.res, (ho.block _ (by omega) (no _ (by omega))).trans h.rb, h.hp.off ho (no _ (by omega)), h.low.trans (ho.below (fun j hj => by have := hF j hj; omega) (by omega))⟩
theorem LyI.kept {w : World} {N : Nat} {s : HpS} {W W' : World} (h : LyI w N s W) (hb : Below W.heap.size W W') : LyI w N s W' := h.to (F := fun _ => False) (Off.of_below hb) (fun _ h => h.elim)
theorem LyI.turn {w : World} {N : Nat} {s t : HpS} {W W' : World} (h : LyI w N s W) (ho : Off (fun j => j = w.heap.size + 2) W W') (hp : Hpb W' (w.heap.size + 2) N t) : LyI w N t W' := by
  have hl := h.lt
  exact ⟨(ho.block _ (by omega) (by omega)).trans h.res, (ho.block _ (by omega) (by omega)).trans h.rb, hp, h.low.trans (ho.below (fun j hj => by omega) (by omega))⟩
/-- The variables of lay when it has refused. -/
structure LyX (w : World) (W : World) : Prop where
  res : W.heap[w.heap.size]? = some (.cells (hpC 0 hp0) 135 (0, 0))
  rb : W.heap[w.heap.size + 1]? = some (.cells #[.bool false] 4 (0, 0))
  low : Below w.heap.size w W
theorem LyX.to {w : World} {W W' : World} (h : LyX w W) {F : Nat → Prop} (ho : Off F W W') (hF : ∀ j, F j → w.heap.size + 2 ≤ j) : LyX w W' := by
  have hl := (Array.getElem?_eq_some_iff.1 h.rb).1
  have no : ∀ j, j < w.heap.size + 2 → ¬ F j := fun j hj hf => by have := hF j hf; omega
  exact ⟨(ho.block _ (by omega) (no _ (by omega))).trans h.res, (ho.block _ (by omega) (no _ (by omega))).trans h.rb, h.low.trans (ho.below (fun j hj => by have := hF j hj; omega) (by omega))⟩
theorem LyI.x {w : World} {N : Nat} {s : HpS} {W : World} (h : LyI w N s W) : LyX w W := ⟨h.res, h.rb, h.low⟩
theorem LyX.again {w : World} {W : World} (h : LyX w W) : LyX w (W.setCell ⟨w.heap.size + 1, 0, none⟩ (.bool false)) := by
  refine ⟨?_, ?_, h.low.setCell (by simp) _⟩
  · rw [heap_setCell_other W ⟨w.heap.size + 1, 0, none⟩ w.heap.size _ (by simp)]; exact h.res
  · rw [heap_setCell_same W (w.heap.size + 1) 0 _ 4 _ h.rb]; rfl
attribute [local go_sem] Oper.semAt_some
set_option maxHeartbeats 4000000 in
theorem hpLay_in (N : Nat) (hN : N ≤ 64) (ao : Option Addr) (n cap : Nat) (l : List Spn) (w : World) (T : Cws w) (h : Ps w ao n cap l) (hn : n ≤ 8796093022208) :
    Calls Tryz.prog 102 #[.int .i64 (N : Int), .slice ao n cap] w fun e w' => ((RightO N l ∧ ∃ s, e = .returned (.tuple #[.agg (hpC N s), .bool true]) ∧ HpI N l s) ∨ (¬ RightO N l ∧ e = .returned (.tuple #[.agg (hpC 0 hp0), .bool false]))) ∧ Below w.heap.size w w' := by
  have hz := hp_zero
  obtain ⟨Z, hZ⟩ : ∃ Z, hpC 0 hp0 = Z := ⟨_, rfl⟩
  have hZs : Z.size = 2113 := by rw [← hZ]; exact hpC_size _ _
  have hZ1 : Z.all (·.oneCell') = true := by rw [← hZ]; exact hpC_one _ _
  rw [hZ] at hz
  have hZn : ¬ Z = #[] := fun e => by rw [e] at hZs; cases hZs
  have d1 : ¬ ((N : Int) < 0) := by omega
  have d2 : ¬ (64 < (N : Int)) := by omega
  obtain ⟨Y, hY⟩ : ∃ Y, hpC N hpz = Y := ⟨_, rfl⟩
  have hYZ : Z.setIfInBounds 2112 (.int .i64 (N : Int)) = Y := by rw [← hZ, ← hY]; exact hpC_n N
  have hYs : Y.size = 2113 := by rw [← hY]; exact hpC_size _ _
  have hY1 : Y.all (·.oneCell') = true := by rw [← hY]; exact hpC_one _ _
  have hst : (storeCells ⟨w.heap.size + 1 + 1, 0, none⟩ (Z.toList.set 2112 (.int .i64 (N : Int))) 0).run Tryz.prog (((w.alloc (.cells Z 135)).alloc (.cells #[.bool false] 4)).alloc (.cells Z 135)) = .ok () (((w.alloc (.cells Z 135)).alloc (.cells #[.bool false] 4)).alloc (.cells Y 135)) := by
    have := run_storeCells_new (P := Tryz.prog) ((w.alloc (.cells Z 135)).alloc (.cells #[.bool false] 4)) 135 Z Y (by rw [hYs]; exact hp_size) (by omega) hY1
    rw [← hYZ, Array.toList_setIfInBounds] at this
    rw [← hYZ]
    simpa using this
  have HL : Hid (LyI w N (hpk 0) (((w.alloc (.cells Z 135)).alloc (.cells #[.bool false] 4)).alloc (.cells Y 135))) := hid (by
    have b1 : Below w.heap.size w (w.alloc (.cells Z 135)) := (Below.refl _ _).alloc (Nat.le_refl _) _
    have b2 := b1.alloc (o := .cells #[.bool false] 4) (by simp)
    have b3 := b2.alloc (o := .cells Y 135) (by simp; omega)
    refine ⟨?_, ?_, ?_, b3⟩
    · rw [hZ, heap_alloc_old _ _ (by simp; omega), heap_alloc_old _ _ (by simp)]; exact heap_alloc_new w _
    · rw [heap_alloc_old _ _ (by simp)]
      have := heap_alloc_new (w.alloc (.cells Z 135)) (.cells #[.bool false] 4)
      rwa [World.size_alloc] at this
    · have := heap_alloc_new ((w.alloc (.cells Z 135)).alloc (.cells #[.bool false] 4)) (.cells Y 135)
      rw [World.size_alloc, World.size_alloc] at this
      have h0 : Hpb (((w.alloc (.cells Z 135)).alloc (.cells #[.bool false] 4)).alloc (.cells Y 135)) (w.heap.size + 2) N hpz := by
        unfold Hpb
        rw [hY]
        exact this
      exact h0.eq (fun i _ => rfl) (fun i j _ _ => rfl))
  have HZ := hid hZ
  clear hZ hY hYZ hYs hY1
  refine callsIn_wide.1 (callsIn_of_wp_marks (n := 8) Tryz.func102 rfl trivial ?_ rfl)
  simp only [Tryz.ntmps102, List.size_toArray, List.length_cons, List.length_nil, Nat.reduceAdd, Nat.reduceSub, Array.replicate_succ, Array.replicate_zero, List.push_toArray, List.append_toArray, List.nil_append, List.cons_append]
  refine wpIn_wide.2 ?_
  go_wp2
  generalize (((w.alloc (.cells Z 135)).alloc (.cells #[.bool false] 4)).alloc (.cells Y 135)) = W0 at *
  clear hst
  go_loopw [20] (fun s20 wr => ∃ k : Nat, k ≤ N ∧ s20 = .int .i64 k ∧ Hid (LyI w N (hpk k) wr)) (fun s20 _ => N - (intOf s20).toNat)
  case atStart => exact ⟨0, Nat.zero_le _, rfl, HL⟩
  case round =>
    obtain ⟨k, hk, rfl, HL1⟩ := hrel
    clear HL
    by_cases hlt : k < N
    · have hki : (k : Int) < (N : Int) := by omega
      have hk64 : (k : Int) < 64 := by omega
      have hk64' : k < 64 := by omega
      have c0 := HL1.out.hp.kind hlt hN
      have f0 := HL1.out.hp.free (k * 33)
      have HL2 : Hid (LyI w N (hpk (k + 1)) (wr.setCell ⟨w.heap.size + 2, k * 33, none⟩ (.int .i64 (-1)))) := hid (HL1.out.turn (Off.setCell (F := fun j => j = w.heap.size + 2) (Off.refl _ _) ⟨w.heap.size + 2, k * 33, none⟩ _ rfl) (HL1.out.hp.next hlt hN))
      clear HL1
      go_wp2
      go_roundw
      case rel => exact ⟨k + 1, by omega, by go_num, HL2⟩
      case measure => simp [intOf]; omega
    · obtain rfl : N = k := by omega
      have cP := parts_any ao n cap wr
      go_wp2_with (go_at_call 119; with_reducible refine cP.mono ?_; rintro e w1 ⟨rfl, rfl⟩)
      have hb0 : Below wr.heap.size wr (wr.alloc (.cells #[.slice ao n cap] 32)) := (Below.refl _ _).alloc (Nat.le_refl _) _
      have hwl := HL1.out.lt
      have hbx : (wr.alloc (.cells #[.slice ao n cap] 32)).cell? ⟨wr.heap.size, 0, none⟩ = some (.slice ao n cap) := by
        rw [cell_of_row _ wr.heap.size 0 _ 32 (0, 0) (heap_alloc_new wr _)]; rfl
      have HL2 : Hid (LyI w N hp0 (wr.alloc (.cells #[.slice ao n cap] 32))) := hid (by
        have := HL1.out.kept hb0
        exact ⟨this.res, this.rb, this.hp.eq (fun i hi => if_pos hi) (fun i j _ _ => rfl), this.low⟩)
      have hlow := HL2.out.low
      have HRP := hid h.rg
      clear cP HL1
      refine (wpIn_wide (n := 8)).1 ?_
      refine wpIn_rangeFunc_ownH (F := Fence.wide) (n := 8) rfl (by omega) (gf := 128) (lb := #[.pointer (some ⟨wr.heap.size, 0, none⟩)]) rfl trivial (enters_of Tryz.func128 (by kernel_rfl) rfl)
        (parts_stops 7 (by omega) wr.heap.size ao n cap l w _ T h hn hlow hbx) (fun h1 h2 => KpP.trans h1 h2) (KpP.put (by have := hlow.size; exact this)) (Below.refl _ _) (fun _ => rfl)
        (fun pre W => wr.heap.size + 1 ≤ W.heap.size ∧ ∃ s, hpRun N hp0 (pfL l pre) = some s ∧ LyI w N s W)
        (fun c pre W => c = .ret ∧ wr.heap.size + 1 ≤ W.heap.size ∧ hpRun N hp0 (pfL l pre) = none ∧ LyX w W)
        (fun s A B' row hs hgr hr => by
          obtain ⟨h1, t, h2, h3⟩ := hs
          exact ⟨Nat.le_trans h1 hgr.size, t, h2, h3.to (F := fun j => row = some j) (Off.of_grown hgr (fun j hj => Or.inl hj)) (fun j hj => by have := (hr j hj).1; simp at this; omega)⟩)
        (fun c s A B' row hs hgr hr => by
          obtain ⟨h0, h1, h2, h3⟩ := hs
          exact ⟨h0, Nat.le_trans h1 hgr.size, h2, h3.to (F := fun j => row = some j) (Off.of_grown hgr (fun j hj => Or.inl hj)) (fun j hj => by have := (hr j hj).1; simp at this; omega)⟩)
        ⟨by simp, hp0, rfl, HL2.out⟩
        (fun x a' W => ∃ Bx, wr.heap.size + 1 ≤ Bx ∧ W.heap[Bx]? = some (prtO (qa l x.1).2) ∧ a' = { tmps := #[.int .i64 (N : Int), .slice ao n cap, undef, undef, .pointer (some ⟨w.heap.size, 0, none⟩), .pointer (some ⟨w.heap.size + 1, 0, none⟩), .pointer (some ⟨w.heap.size + 1 + 1, 0, none⟩), u7, undef, .pointer (some ⟨Bx, 0, none⟩), .int .i64 (N : Int), .bool false, .bool false, .int .i64 (N : Int), .bool false, .bool false, undef, .int .i64 (N : Int), .agg (Z.setIfInBounds 2112 (.int .i64 (N : Int))), .int .i64 (N : Int), .int .i64 (N : Int), .bool false, u22, u23, u24, u25, u26, u27, .slice ao n cap, .func (.func 128) #[] #[.pointer (some ⟨wr.heap.size, 0, none⟩)], .int .i64 ((qa l x.1).1 : Int), .agg #[.int .i64 (qa l x.1).2.pos, .int .i64 (qa l x.1).2.sz, .int .i64 (qa l x.1).2.ix], undef, undef, undef, undef, undef], defers := [] })
        (fun x a' _ A B' row hs hgr hr => by
          obtain ⟨Bx, h1, h2, h3⟩ := hs
          refine ⟨Bx, h1, (hgr.block Bx (Array.getElem?_eq_some_iff.1 h2).1 (fun e => ?_)).trans h2, h3⟩
          obtain ⟨_, o, ho, hc⟩ := hr Bx e.symm
          rw [h2] at ho
          cases ho
          cases hc) ?assign ?body ?done ?stop
      case assign =>
        rintro L pre x W K ⟨hi0, t, hi1, hi2⟩ hK
        dsimp only [encP]
        gi_wp2
        have hbl : Below W.heap.size W (W.alloc (prtO (qa l x.1).2)) := (Below.refl _ _).alloc (Nat.le_refl _) _
        have hwz := hlow.size
        simp only [World.size_alloc] at hwz
        exact hK _ _ ((KeepsOthers.alloc _ _).from _) (KpP.below hbl (by omega)) ⟨by simp; omega, t, hi1, hi2.kept hbl⟩ ⟨W.heap.size, by omega, heap_alloc_new W _, rfl⟩
      case body =>
        rintro L pre x a' W hl' ⟨r, hr⟩ ⟨hi0, t, hi1, hi2⟩ ⟨Bx, hBx, bX, rfl⟩ hlt
        clear hr r
        obtain ⟨_, o1, o2, o3⟩ := qa_ok HRP.out x
        have hsn := pfL_snoc l pre x
        have hiL := hi2.lt
        have hF : (Fence.wide.inRound L).fn 120 := trivial
        have h16 : 1 ≤ 8 - 1 - 1 := by omega
        have c0 : W.cell? ⟨Bx, 0, none⟩ = some (.int .i64 (qa l x.1).2.pos) := by rw [cell_of_row W Bx 0 _ 156 (0, 0) bX]; rfl
        have c1 : W.cell? ⟨Bx, 1, none⟩ = some (.int .i64 (qa l x.1).2.sz) := by rw [cell_of_row W Bx 1 _ 156 (0, 0) bX]; rfl
        have c2 : W.cell? ⟨Bx, 2, none⟩ = some (.int .i64 (qa l x.1).2.ix) := by rw [cell_of_row W Bx 2 _ 156 (0, 0) bX]; rfl
        have hne : ¬ (135 : Nat) = 58 ∧ ¬ (135 : Nat) = 156 := by decide
        have hlowz := hlow.size
        simp only [World.size_alloc] at hlowz
        by_cases hok : HpOk N t (qa l x.1).2
        · have cT := take_t (w.heap.size + 2) N t (qa l x.1).2 W hi2.hp hN o1 o3 hok
          have HR := hid (hpRun_more hi1 hok)
          have HI := hid hi2
          rw [← hsn] at HR
          clear hi1 hi2 hsn hok o1 o2 o3
          generalize (qa l x.1).2 = pt at *
          obtain ⟨p1, z1, x1⟩ := pt
          simp only at *
          gi_wp2_with fail
          refine ⟨trivial, (CallsIn.inRound L (callsIn_wide.2 cT)).mono ?_⟩
          rintro e W' ⟨rfl, k1, k2⟩
          have HK1 := hid k1
          have HK2 := hid k2
          clear k1 k2
          gi_wp2
          have hk := HK2.out.size
          refine ⟨keeps_off HK2.out HI.out.hp, ⟨HK2.out.below (fun j hj => by omega) (by omega), fun j c ty z hty hj => ?_⟩, by omega, _, HR.out, HI.out.turn HK2.out HK1.out⟩
          refine (HK2.out.block j (Array.getElem?_eq_some_iff.1 hj).1 (fun e => ?_)).trans hj
          have hp := HI.out.hp
          unfold Hpb at hp
          rw [e, hp] at hj
          cases hj
          rcases hty with hty | hty
          · exact hne.1 hty
          · exact hne.2 hty
        · have cT := take_f (w.heap.size + 2) N t (qa l x.1).2 W hi2.hp hN o1 hok
          have HR := hid (hpRun_ends (r := []) hi1 hok)
          have HI := hid hi2
          rw [← hsn] at HR
          clear hi1 hi2 hsn hok o1 o2 o3
          generalize (qa l x.1).2 = pt at *
          obtain ⟨p1, z1, x1⟩ := pt
          simp only at *
          gi_wp2_with fail
          refine ⟨trivial, (CallsIn.inRound L (callsIn_wide.2 cT)).mono ?_⟩
          rintro e W' ⟨rfl, k2⟩
          have HK2 := hid k2
          have hk := k2.size
          have hres : W'.heap[w.heap.size]? = some (.cells Z 135 (0, 0)) := (k2.block _ (by omega) (by omega)).trans (by rw [HI.out.res, HZ.out])
          have hrb : W'.heap[w.heap.size + 1]? = some (.cells #[.bool false] 4 (0, 0)) := (k2.block _ (by omega) (by omega)).trans HI.out.rb
          have hst := run_hpStore W' w.heap.size Z Z hres hZs hZs hZ1
          rw [setRow_same _ _ _ _ hres] at hst
          have g0 : W'.cell? ⟨w.heap.size + 1, 0, none⟩ = some (.bool false) := by rw [cell_of_row W' _ 0 _ 4 (0, 0) hrb]; rfl
          have g1 : W'.frozen? ⟨w.heap.size + 1, 0, none⟩ = false := frozen_of_row W' _ 0 _ 4 hrb
          have HX := hid (HI.out.x.to k2 (fun j hj => by omega))
          clear k2 hrb hres
          gi_wp2
          refine ⟨(keeps_off HK2.out HI.out.hp).trans (keeps_off (Off.setCell (F := fun j => j = w.heap.size + 1) (Off.refl _ W') ⟨w.heap.size + 1, 0, none⟩ (.bool false) rfl) HX.out.rb), rfl, by simp; omega, HR.out, HX.out.again⟩
      case done =>
        rintro D xs W hD rfl ⟨hi0, t, hi1, hi2⟩ hK
        rw [pfL_all] at hi1
        have hr : RightO N l := Decidable.byContradiction fun c => by
          have := (hp_all hN l).2 c
          rw [hi1] at this
          cases this
        obtain ⟨t', e', HI⟩ := (hp_all hN l).1 hr
        rw [hi1] at e'
        cases e'
        have HII := hid HI
        have HLY := hid hi2
        have HK := hid hK
        have hiL := hi2.lt
        obtain ⟨C, hC⟩ : ∃ C, hpC N t = C := ⟨_, rfl⟩
        have hCs : C.size = 2113 := by rw [← hC]; exact hpC_size _ _
        have hC1 : C.all (·.oneCell') = true := by rw [← hC]; exact hpC_one _ _
        have hpb : W.heap[w.heap.size + 2]? = some (.cells C 135 (0, 0)) := by rw [← hC]; exact hi2.hp
        have HPB := hid hpb
        have HR0 := hid hi2.res
        have hW1 : Off (fun j => j = w.heap.size) W (W.setRow w.heap.size C) := ⟨rfl, rfl, rfl, by simp [World.setRow], fun k hk hne => by simp only [World.setRow]; rw [Array.getElem?_modify, if_neg (fun e => hne e.symm)]⟩
        have hres : (W.setRow w.heap.size C).heap[w.heap.size]? = some (.cells C 135 (0, 0)) := setRow_heap W w.heap.size _ C 135 (0, 0) hi2.res
        have hrb : (W.setRow w.heap.size C).heap[w.heap.size + 1]? = some (.cells #[.bool false] 4 (0, 0)) := (hW1.block _ (by omega) (by omega)).trans hi2.rb
        have hDK : (W.setRow w.heap.size C).heap[D]? = some (.deferred (some [])) := (hW1.block _ (Array.getElem?_eq_some_iff.1 hK).1 (by simp only [World.size_alloc] at hD; omega)).trans hK
        have hlw : Below w.heap.size w (W.setRow w.heap.size C) := hi2.low.trans (hW1.below (fun j hj => by omega) (by omega))
        have g0 : (W.setRow w.heap.size C).cell? ⟨w.heap.size + 1, 0, none⟩ = some (.bool false) := by rw [cell_of_row _ _ 0 _ 4 (0, 0) hrb]; rfl
        have g1 : (W.setRow w.heap.size C).frozen? ⟨w.heap.size + 1, 0, none⟩ = false := frozen_of_row _ _ 0 _ 4 hrb
        have HC := hid hC
        have HRS := hid hres
        have HRB := hid hrb
        have HDK := hid hDK
        have HLW := hid hlw
        have hDz : wr.heap.size + 1 ≤ D := by simpa using hD
        clear HI hi1 hi2 hK hW1 hpb hres hrb hDK hlw hC HK
        simp only
        go_upto_region 13 with (fail)
        refine wp_region_list ?_
        refine wpList_load_row rfl 135 (.tmp 6) rfl (w.heap.size + 1 + 1) rfl 135 C (0, 0) _ HPB.out Tryz.underlying135 rfl (by rw [hCs]; exact hp_size) ?_
        refine wpList_store_row rfl 135 (.tmp 4) (.tmp 36) rfl w.heap.size C rfl rfl 135 (hpC 0 hp0) HR0.out (by rw [hCs]; exact hp_size) ((hpC_size _ _).trans hCs.symm) hC1 ?_
        generalize W.setRow w.heap.size C = W2 at *
        simp only [Act.put, List.setIfInBounds_toArray, List.set_cons_zero, List.set_cons_succ]
        go_wp2
        have hres3 : (W2.setCell ⟨w.heap.size + 1, 0, none⟩ (.bool true)).heap[w.heap.size]? = some (.cells C 135 (0, 0)) := by
          rw [heap_setCell_other W2 ⟨w.heap.size + 1, 0, none⟩ w.heap.size _ (by simp)]; exact HRS.out
        have hrb3 : (W2.setCell ⟨w.heap.size + 1, 0, none⟩ (.bool true)).heap[w.heap.size + 1]? = some (.cells #[.bool true] 4 (0, 0)) := by
          rw [heap_setCell_same W2 (w.heap.size + 1) 0 _ 4 _ HRB.out]; rfl
        have hD3 : (W2.setCell ⟨w.heap.size + 1, 0, none⟩ (.bool true)).heap[D]? = some (.deferred (some [])) := by
          rw [heap_setCell_other W2 ⟨w.heap.size + 1, 0, none⟩ D _ (by simp only; omega)]; exact HDK.out
        have hlw3 : Below w.heap.size w (W2.setCell ⟨w.heap.size + 1, 0, none⟩ (.bool true)) := HLW.out.setCell (by simp) _
        generalize W2.setCell ⟨w.heap.size + 1, 0, none⟩ (.bool true) = W3 at *
        have hof : Off (fun j => j = D) W3 (W3.putObj D (.deferred none)) := Off.of_grown (grownBy_putObj' W3 D _) (fun j hj => Or.inl (Option.some.inj hj).symm)
        have hl3 := (Array.getElem?_eq_some_iff.1 hrb3).1
        have hres4 := (hof.block _ (show w.heap.size < W3.heap.size by omega) (by omega)).trans hres3
        have hrb4 := (hof.block _ hl3 (by omega)).trans hrb3
        have hlw4 := hlw3.trans (hof.below (fun j hj => by omega) hlw3.size)
        refine ⟨by simp, .inl ⟨_, _, rfl, run_takeDeferred hD3, ?_⟩⟩
        refine ⟨_, results_two rfl _ _ ⟨w.heap.size, 0, none⟩ ⟨w.heap.size + 1, 0, none⟩ (.agg C) (.bool true) rfl rfl (run_hpLoad _ _ C hres4 hCs) (run_boolLoad _ _ true (by rw [cell_of_row _ _ 0 _ 4 (0, 0) hrb4]; rfl)), ?_⟩
        exact ⟨.inl ⟨hr, t, by rw [HC.out], HII.out⟩, hlw4⟩
      case stop =>
        rintro D c pre W hD ⟨q, rfl⟩ ⟨rfl, hx0, hx1, hx2⟩ hK
        have hr : ¬ RightO N l := fun c => by
          obtain ⟨s, e, _⟩ := (hp_all hN l).1 c
          obtain ⟨r, hr⟩ := pfL_take l q
          rw [hr, hpRun_stop hx1] at e
          cases e
        simp only [World.size_alloc] at hD
        have hof : Off (fun j => j = D) W (W.putObj D (.deferred none)) := Off.of_grown (grownBy_putObj' W D _) (fun j hj => Or.inl (Option.some.inj hj).symm)
        have hx3 := hx2.to hof (fun j hj => by omega)
        simp only
        gi_wp2
        refine ⟨by simp, .inl ⟨_, _, rfl, run_takeDeferred hK, ?_⟩⟩
        refine ⟨_, results_two rfl _ _ ⟨w.heap.size, 0, none⟩ ⟨w.heap.size + 1, 0, none⟩ (.agg (hpC 0 hp0)) (.bool false) rfl rfl (run_hpLoad _ _ _ hx3.res (hpC_size _ _)) (run_boolLoad _ _ false (by rw [cell_of_row _ _ 0 _ 4 (0, 0) hx3.rb]; rfl)), ?_⟩
        exact ⟨.inr ⟨hr, rfl⟩, hx3.low⟩
end Go.Proofs.YtpbljjbhfhfmgaaGreatDoor
/- pages' kinds and Kinds by their contracts. -/
namespace Go.Proofs.YtpbljjbhfhfmgaaGreatDoor
set_option maxRecDepth 100000
open Go.RowKit
set_option linter.unusedVariables false
set_option linter.unusedSimpArgs false
set_option maxRecDepth 100000

/-- Kinds told one by one. -/
def ksL (s : HpS) (N k : Nat) : List Int := (List.range N).map (fun i => if i < k then s.kd i else 0)
theorem ksL_zero (s : HpS) (N : Nat) : ksL s N 0 = List.replicate N 0 := by
  apply List.ext_getElem?
  intro i
  by_cases h : i < N <;> simp [ksL, h]
theorem ksL_set (s : HpS) (N k : Nat) : (ksL s N k).set k (s.kd k) = ksL s N (k + 1) := by
  unfold ksL
  rw [map_range_set]
  refine map_range_eq fun i hi => ?_
  by_cases e : i = k
  · rw [if_pos e, if_pos (by omega), e]
  · rw [if_neg e]
    by_cases c : i < k
    · rw [if_pos c, if_pos (by omega)]
    · rw [if_neg c, if_neg (by omega)]
theorem ksL_all {N : Nat} {l : List Spn} {s : HpS} (h : HpI N l s) : ksL s N N = kzN N l := by
  unfold ksL kzN
  rw [Int.toNat_natCast]
  exact map_range_eq fun i hi => by rw [if_pos hi, h.kd i hi]
set_option maxHeartbeats 1000000 in
theorem kinds_hp (b N : Nat) (s : HpS) (w : World) (h : Hpb w b N s) (hN : N ≤ 64) :
    Calls Tryz.prog 103 #[.pointer (some ⟨b, 0, none⟩)] w fun e w' => ∃ bo m c, e = .returned (.slice bo m c) ∧ Own .i64 3 w.heap.size w' bo m c (ksL s N N) ∧ Below w.heap.size w w' := by
  obtain ⟨i0, hi, hz0, hz1, hz2⟩ := info_parts Tryz.info3
  have c9 := h.count
  have hlt := h.lt
  have HH := hid h
  clear h
  go_enter Tryz.func103, Tryz.ntmps103
  go_wp2_with (at_make; refine wpList_make_full _ rfl _ _ 33 rfl w.heap.size 3 i0 (.int .i64 0) 1 Tryz.underlying33 hi hz0 hz1 .i64 .i64 _ _ N rfl rfl ?b0 ?b1 ?b2 ?b3 ?b4 ?_)
  case b0 => rfl
  case b1 => rfl
  case b2 => rw [hz2]; omega
  case b3 => unfold maxLen; omega
  case b4 => exact Nat.le_refl _
  intro w1 hown hgrow
  have hbel : Below w.heap.size w w1 := (Below.refl _ _).grown hgrow (Nat.le_refl _) (by intro k hk; cases hk)
  have HO1 : Hid (Own .i64 3 w.heap.size w1 (some ⟨w.heap.size, 0, none⟩) N N (ksL s N 0)) := hid ⟨by simp [ksL], by
    rw [ksL_zero]
    have hm : (madeCells #[Value.int .i64 0] N).toList = (List.replicate N (0 : Int)).map (Value.int .i64) := by rw [toList_madeCells_one]; simp
    rw [← hm]
    exact hown⟩
  clear hown hgrow hi hz0 hz1 hz2 c9
  go_wp2
  go_loopw [12] (fun s12 wr => ∃ k : Nat, k ≤ N ∧ s12 = .int .i64 k ∧ Hid (Own .i64 3 w.heap.size wr (some ⟨w.heap.size, 0, none⟩) N N (ksL s N k)) ∧ Below w.heap.size w wr) (fun s12 _ => N - (intOf s12).toNat)
  case atStart => exact ⟨0, Nat.zero_le _, rfl, HO1, hbel⟩
  case round =>
    clear HO1 hbel
    obtain ⟨k, hk, rfl, HO, hb⟩ := hrel
    by_cases hltk : k < N
    · have hki : (k : Int) < (N : Int) := by omega
      have hk64 : (k : Int) < 64 := by omega
      have hk64' : k < 64 := by omega
      have hne : b ≠ w.heap.size := by omega
      obtain ⟨y, hy⟩ : ∃ y, (ksL s N k).getD k 0 = y := ⟨_, rfl⟩
      have c0 := HO.out.at k hltk hy
      have f0 := HO.out.row.frozenAt k
      have c1 := (HH.out.kept hb).kind hltk hN
      have HO2 : Hid (Own .i64 3 w.heap.size (wr.setCell ⟨w.heap.size, k, none⟩ (.int .i64 (s.kd k))) (some ⟨w.heap.size, 0, none⟩) N N (ksL s N (k + 1))) := hid (by rw [← ksL_set]; exact HO.out.set k (s.kd k))
      clear HO HH hy
      generalize s.kd k = v at *
      go_wp2
      go_roundw
      case rel => exact ⟨k + 1, by omega, by go_num, HO2, hb.setCell (Nat.le_refl _) _⟩
      case measure => simp [intOf]; omega
    · obtain rfl : N = k := by omega
      go_wp2
      go_ret
      exact ⟨_, _, _, rfl, HO.out, hb⟩
/-- A heap that is laid, or none. -/
def LaidH (P : Int) (l : List Spn) (M : Nat) (s : HpS) (b : Bool) : Prop := M ≤ 64 ∧ ((RightO P l ∧ b = true ∧ (M : Int) = P ∧ HpI M l s) ∨ (¬ RightO P l ∧ b = false ∧ M = 0))
theorem lay_ps (P : Int) (ao : Option Addr) (n cap : Nat) (l : List Spn) (w : World) (T : Cws w) (h : Ps w ao n cap l) (hn : n ≤ 8796093022208) :
    Calls Tryz.prog 102 #[.int .i64 P, .slice ao n cap] w fun e w' => ∃ (M : Nat) (s : HpS) (b : Bool), e = .returned (.tuple #[.agg (hpC M s), .bool b]) ∧ LaidH P l M s b ∧ Below w.heap.size w w' := by
  by_cases hP : 0 ≤ P ∧ P ≤ 64
  · obtain ⟨N, rfl⟩ := Int.eq_ofNat_of_zero_le hP.1
    refine (hpLay_in N (by omega) ao n cap l w T h hn).mono ?_
    rintro e w' ⟨⟨hr, s, rfl, hi⟩ | ⟨hr, rfl⟩, hb⟩
    · exact ⟨N, s, true, rfl, ⟨by omega, .inl ⟨hr, rfl, rfl, hi⟩⟩, hb⟩
    · exact ⟨0, hp0, false, rfl, ⟨by omega, .inr ⟨hr, rfl, rfl⟩⟩, hb⟩
  · refine (hpLay_out P ao n cap w hP).mono ?_
    rintro e w' ⟨rfl, hb⟩
    exact ⟨0, hp0, false, rfl, ⟨by omega, .inr ⟨fun c => hP c.rng, rfl, rfl⟩⟩, hb⟩
theorem hp_laid (w : World) (M : Nat) (s : HpS) : (storeCells ⟨w.heap.size, 0, none⟩ (hpC M s).toList 0).run Tryz.prog (w.alloc (.cells (hpC 0 hp0) 135)) = .ok () (w.alloc (.cells (hpC M s) 135)) :=
  run_storeCells_new (P := Tryz.prog) w 135 _ _ (by rw [hpC_size]; exact hp_size) (by rw [hpC_size, hpC_size]) (hpC_one _ _)
theorem hpC_some (M : Nat) (s : HpS) : ¬ hpC M s = #[] := fun e => by have := hpC_size M s; rw [e] at this; cases this
theorem hpb_new (w : World) (M : Nat) (s : HpS) : Hpb (w.alloc (.cells (hpC M s) 135)) w.heap.size M s := heap_alloc_new w _
theorem LaidH.le {P : Int} {l : List Spn} {M : Nat} {s : HpS} {b : Bool} (h : LaidH P l M s b) : M ≤ 64 := h.1
theorem LaidH.kinds {P : Int} {l : List Spn} {M : Nat} {s : HpS} {b : Bool} (h : LaidH P l M s b) : ksL s M M = kzL P l ∧ b = rtO P l := by
  obtain ⟨_, ⟨hr, rfl, rfl, hi⟩ | ⟨hr, rfl, rfl⟩⟩ := h
  · rw [(kz_t hr).1, (kz_t hr).2]
    exact ⟨ksL_all hi, rfl⟩
  · rw [(kz_f hr).1, (kz_f hr).2]
    exact ⟨rfl, rfl⟩
set_option maxHeartbeats 1000000 in
theorem kinds_ps (P : Int) (ao : Option Addr) (n cap : Nat) (l : List Spn) (w : World) (T : Cws w) (h : Ps w ao n cap l) (hn : n ≤ 8796093022208) :
    Calls Tryz.prog 78 #[.int .i64 P, .slice ao n cap] w fun e w' => ∃ bo m c, e = .returned (.tuple #[.slice bo m c, .bool (rtO P l)]) ∧ Own .i64 3 w.heap.size w' bo m c (kzL P l) ∧ Below w.heap.size w w' := by
  have cL := lay_ps P ao n cap l w T h hn
  have hz := hp_zero
  have hz1 := hpC_size 0 hp0
  have hz2 := hpC_some 0 hp0
  clear h T
  go_enter Tryz.func78, Tryz.ntmps78
  go_wp2_with (first
    | (go_at_call 102; with_reducible refine cL.mono ?_; rintro e w1 ⟨M, s, b, rfl, hL, hb1⟩; have HL := hid hL; have hM := hL.le; have hst := hp_laid w1 M s; have hsz := hpC_size M s; have hbA := hb1.alloc hb1.size (.cells (hpC M s) 135); have cK := kinds_hp w1.heap.size M s _ (hpb_new w1 M s) hM; clear hL)
    | (go_at_call 103; with_reducible refine cK.mono ?_; rintro e w2 ⟨bo, m, c, rfl, ho, hb2⟩; have HO := hid ho; have HB := hid (next hbA hb2); clear ho hb2))
  go_ret2
  have hw := hb1.size
  obtain ⟨e1, e2⟩ := HL.out.kinds
  exact ⟨bo, m, c, by rw [← e2]; rfl, by rw [← e1]; exact HO.out.mono (by simp; omega), HB.out⟩
end Go.Proofs.YtpbljjbhfhfmgaaGreatDoor
