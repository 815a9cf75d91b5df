/- joistref03's Load, Fence, Dirty, Crash by their contracts. -/
import Derived.Test.YtcelmnhdchfhiaaRFence
namespace Go.Proofs.Ytcelmnhdchfhiaa
open Go.RowKit
set_option linter.unusedVariables false

section
variable {w : World} {G : Nat → Prop} {q : Nat} {R : RSt}
theorem slice_to {ao : Option Addr} {m m' c : Nat} (h : m = m') : Value.slice ao m c = .slice ao m' c := by rw [h]
theorem rload_bad (hd : RDev w G q R) (a m : Int) (ha : Rg a) (hm : Rg m) (hE : raskE R a m ≠ 0) :
    Calls Try.prog 15 #[.pointer (some ⟨q, 0, none⟩), .int .i64 a, .int .i64 m] w fun e w' => e = .returned (.tuple #[.slice none 0 0, .int .i64 (raskE R a m)]) ∧ w = w' := by
  have cA := rasks_any hd a m ha hm
  have hne : (raskE R a m != 0) = true := by simpa using hE
  generalize raskE R a m = E at *
  clear hd
  go_enter Try.func15, Try.ntmps15
  go_wp2_with (go_at_call 35; with_reducible refine cA.mono ?_; rintro e w1 ⟨rfl, rfl⟩)
  go_ret2
  exact ⟨rfl, rfl⟩
set_option maxRecDepth 100000 in
theorem rload_good (hd : RDev w G q R) (i m : Nat) (hE : raskE R i m = 0) :
    Calls Try.prog 15 #[.pointer (some ⟨q, 0, none⟩), .int .i64 i, .int .i64 m] w fun e w' => ∃ ao c, e = .returned (.tuple #[.slice ao m c, .int .i64 0]) ∧ Own .u8 5 w.heap.size w' ao m c ((R.seen.drop i).take m) ∧ Below w.heap.size w w' := by
  obtain ⟨k1, k2, k3, k4⟩ := rask_zero hE
  have hn1 := hd.ok.n1
  have cA := rasks_any hd i m ⟨by omega, by omega⟩ ⟨by omega, by omega⟩
  rw [hE] at cA
  obtain ⟨lb, lc, sb, sc, db, fb, hd⟩ := hd
  have hb0 : Below w.heap.size w (w.alloc (.cells #[] 5)) := (Below.refl _ _).alloc (Nat.le_refl _) _
  obtain ⟨_, c1, _, _, _, _⟩ := rdev_cells hd.obj
  have c1' := (hb0.cell (p := ⟨q, 1, none⟩) (hd.bound q hd.gq)).trans c1
  have hcap := hd.seen.cap_le
  have hmade : (w.alloc (.cells #[] 5)).ownsRow w.heap.size 5 1 (.slice (some ⟨w.heap.size, 0, none⟩) 0 0) 0 (([] : List Int).map (Value.int .u8)) := World.ownsRow_made w #[] 0 (Nat.le_refl _) (Nat.zero_le _) rfl
  have hs0 := hb0.size
  obtain ⟨L, hL⟩ : ∃ L, 64 * R.n = L := ⟨_, rfl⟩
  have hsl := (hd.seen.sl.below hb0).sliced i (i + m) (by omega) (by omega)
  rw [Nat.add_sub_cancel_left] at hsl
  rw [hL] at c1 c1' hcap
  have j1 : (i : Int) + m ≤ L := by omega
  have j2 : i + m ≤ L := by omega
  have hm9 : 0 + m ≤ 140737488355328 := by omega
  clear hL hd hE k4
  by_cases hk : sc = i
  · rw [if_pos hk] at hsl
    obtain rfl : m = 0 := by omega
    obtain rfl : L = i := by omega
    subst hk
    simp only [Nat.sub_self] at hsl
    rw [show ((0 : Nat) : Int) = 0 from rfl] at cA
    go_enter Try.func15, Try.ntmps15
    go_wp2_with (first
      | (go_at_call 35; with_reducible refine cA.mono ?_; rintro e w1 ⟨rfl, rfl⟩)
      | (at_builtin; refine append_sl rfl (.tmp 16) (.tmp 25) rfl w.heap.size _ 0 [] rfl hmade _ 0 _ _ rfl hsl hm9 hs0 ?_; intro bo c w1 hown hgr _))
    go_ret2
    rw [Nat.zero_add, List.nil_append] at hown
    exact ⟨bo, c, by simp, hown, hb0.grown hgr hs0 (fun b hb' => (hmade.lt b hb').1)⟩
  · rw [if_neg hk] at hsl
    simp only [Option.map_some, Nat.mul_one, Addr.add_lit, Nat.zero_add] at hsl
    have g9 : i + m - i = m := by omega
    go_enter Try.func15, Try.ntmps15
    go_wp2_with (first
      | (go_at_call 35; with_reducible refine cA.mono ?_; rintro e w1 ⟨rfl, rfl⟩)
      | (at_builtin; refine append_sl rfl (.tmp 16) (.tmp 25) rfl w.heap.size _ 0 [] rfl hmade _ m _ _ (slice_to g9) hsl hm9 hs0 ?_; intro bo c w1 hown hgr _))
    go_ret2
    rw [Nat.zero_add, List.nil_append] at hown
    exact ⟨bo, c, by simp, hown, hb0.grown hgr hs0 (fun b hb' => (hmade.lt b hb').1)⟩

/-- What the round of Fence finds behind lasting, and leaves. -/
theorem rfen_facts {T : RSt} {N k : Nat} (hd : RDev w G q T) (hn : T.n = N) (hk : k < N) : ∃ db fb, w.cell? ⟨q, 2, none⟩ = some (.slice (some ⟨db, 0, none⟩) N N) ∧ w.cell? ⟨q, 3, none⟩ = some (.slice (some ⟨fb, 0, none⟩) N N) ∧
    (w.setCell ⟨db, k, none⟩ (.bool false)).cell? ⟨q, 3, none⟩ = some (.slice (some ⟨fb, 0, none⟩) N N) ∧ w.cell? ⟨db, k, none⟩ = some (.bool (T.dirty.getD k false)) ∧ w.frozen? ⟨db, k, none⟩ = false ∧
    (w.setCell ⟨db, k, none⟩ (.bool false)).cell? ⟨fb, k, none⟩ = some (.bool (T.flushed.getD k false)) ∧ (w.setCell ⟨db, k, none⟩ (.bool false)).frozen? ⟨fb, k, none⟩ = false ∧
    Hid (RDev ((w.setCell ⟨db, k, none⟩ (.bool false)).setCell ⟨fb, k, none⟩ (.bool false)) G q { T with dirty := T.dirty.set k false, flushed := T.flushed.set k false }) ∧ Hid (Goes G w G ((w.setCell ⟨db, k, none⟩ (.bool false)).setCell ⟨fb, k, none⟩ (.bool false))) := by
  subst hn
  obtain ⟨lb, lc, sb, sc, db, fb, d3⟩ := hd
  obtain ⟨_, _, z1, z2, _, _⟩ := rdev_cells d3.obj
  obtain ⟨y1, y2⟩ := bool_cell d3.dirty (i := k) (by rw [d3.ok.l2]; exact hk)
  obtain ⟨d4, g4⟩ := d3.dirtied k false
  obtain ⟨_, _, _, z3, _, _⟩ := rdev_cells d4.obj
  obtain ⟨y3, y4⟩ := bool_cell d4.flushed (i := k) (by rw [d4.ok.l3]; exact hk)
  obtain ⟨d5, g5⟩ := d4.flushedTo k false
  exact ⟨db, fb, z1, z2, z3, y1, y2, y3, y4, hid ⟨_, _, _, _, _, _, d5⟩, hid ((d3.goes d3.gd g4).trans (d4.goes d4.gf g5))⟩
def rfen1 (S : RSt) (k : Nat) : RSt := if S.flushed.getD k false = true then { rlast S k with dirty := S.dirty.set k false, flushed := S.flushed.set k false } else S
def rfenceN (R : RSt) : Nat → RSt
  | 0 => R
  | k + 1 => rfen1 (rfenceN R k) k
theorem rfen1_n (S : RSt) (k : Nat) : (rfen1 S k).n = S.n := by unfold rfen1; split <;> rfl
theorem rfenceN_n (k : Nat) : (rfenceN R k).n = R.n := by
  induction k with
  | zero => rfl
  | succ k ih => exact (rfen1_n _ _).trans ih
set_option maxRecDepth 100000 in
set_option maxHeartbeats 1000000 in
theorem rfence_any (hd : RDev w G q R) :
    Calls Try.prog 21 #[.pointer (some ⟨q, 0, none⟩)] w fun e w' => Goes G w G w' ∧
      (R.down = true → e = .returned (.int .i64 5) ∧ RDev w' G q R) ∧
      (R.down = false → rstepB R = true → e = .returned (.int .i64 5) ∧ RDev w' G q (rstepS R)) ∧
      (R.down = false → rstepB R = false → e = .returned (.int .i64 0) ∧ RDev w' G q (rfenceN (rstepS R) R.n)) := by
  have hok := hd.ok
  have hn9 := hok.n1
  cases hdn : R.down with
  | true =>
    have H := hid hd
    obtain ⟨lb, lc, sb, sc, db, fb, hd⟩ := hd
    obtain ⟨c0, c1, c2, c3, c4, c5⟩ := rdev_cells hd.obj
    rw [hdn] at c5
    clear hd
    go_enter Try.func21, Try.ntmps21
    go_wp2
    go_ret
    exact ⟨Goes.refl _ _, (fun _ => ⟨rfl, H.out⟩), (fun h => by cases h), (fun h => by cases h)⟩
  | false =>
    have cS := rstep_any hd hdn
    obtain ⟨lb, lc, sb, sc, db, fb, hd⟩ := hd
    obtain ⟨c0, c1, c2, c3, c4, c5⟩ := rdev_cells hd.obj
    rw [hdn] at c5
    clear hd
    cases hB : rstepB R with
    | true =>
      rw [hB] at cS
      go_enter Try.func21, Try.ntmps21
      go_wp2_with (go_at_call 39; with_reducible refine cS.mono ?_; rintro e w2 ⟨rfl, d2, g2⟩)
      go_ret
      exact ⟨g2, (fun h => by cases h), (fun _ _ => ⟨rfl, d2⟩), (fun _ h => by cases h)⟩
    | false =>
      rw [hB] at cS
      have hSn : (rstepS R).n = R.n := rstepS_same.1
      go_enter Try.func21, Try.ntmps21
      go_wp2_with (go_at_call 39; with_reducible refine cS.mono ?_; rintro e w2 ⟨rfl, d2, g2⟩)
      go_loopw [3] (fun t wr => ∃ k : Nat, k ≤ R.n ∧ t = .int .i64 k ∧ RDev wr G q (rfenceN (rstepS R) k) ∧ Goes G w G wr) (fun t _ => R.n - (intOf t).toNat)
      case atStart => exact ⟨0, Nat.zero_le _, rfl, d2, g2⟩
      case round =>
        clear d2 g2 c0 c1 c2 c3 c4 c5
        obtain ⟨k, hk, rfl, hdk, hg⟩ := hrel
        have hTn : (rfenceN (rstepS R) k).n = R.n := (rfenceN_n k).trans hSn
        have HT : Hid (rfenceN (rstepS R) (k + 1) = rfen1 (rfenceN (rstepS R) k) k) := hid rfl
        by_cases hlt : k < R.n
        · generalize rfenceN (rstepS R) k = T at *
          have cL := rlasting_any hdk k (by omega)
          have H0 := hid hdk
          obtain ⟨lb, lc, sb, sc, db, fb, hdk⟩ := hdk
          obtain ⟨c0, c1, c2, c3, c4, c5⟩ := rdev_cells hdk.obj
          obtain ⟨x3, x4⟩ := bool_cell hdk.flushed (i := k) (by rw [hdk.ok.l3]; omega)
          rw [hTn] at c2 c3
          have hki : (k : Int) < R.n := by omega
          cases hfl : T.flushed.getD k false with
          | false =>
            rw [hfl] at x3
            have e1 : rfen1 T k = T := by unfold rfen1; rw [hfl]; rfl
            rw [e1] at HT
            clear hdk cL
            go_wp2
            go_roundw
            case rel => exact ⟨k + 1, by omega, by go_num, by rw [HT.out]; exact H0.out, hg⟩
            case measure => simp [intOf]; omega
          | true =>
            rw [hfl] at x3
            have e1 : rfen1 T k = { rlast T k with dirty := T.dirty.set k false, flushed := T.flushed.set k false } := by unfold rfen1; rw [if_pos hfl]
            rw [e1] at HT
            clear hdk
            have hln : (rlast T k).n = R.n := hTn
            go_wp2_with (first
              | (go_at_call 40; with_reducible refine cL.mono ?_; rintro e w3 ⟨rfl, d3, g3⟩; rcases rfen_facts d3 hln hlt with ⟨db3, fb3, z1, z2, z3, y1, y2, y3, y4, H5, HG⟩; have HG5 := hid (hg.trans (g3.trans HG.out))))
            go_roundw
            case rel => exact ⟨k + 1, by omega, by go_num, by rw [HT.out]; exact H5.out, HG5.out⟩
            case measure => simp [intOf]; omega
        · obtain rfl : k = R.n := by omega
          have H0 := hid hdk
          obtain ⟨lb, lc, sb, sc, db, fb, hdk⟩ := hdk
          obtain ⟨c0, c1, c2, c3, c4, c5⟩ := rdev_cells hdk.obj
          rw [hTn] at c2 c3
          clear hdk
          go_wp2
          go_ret
          exact ⟨hg, (fun h => by cases h), (fun _ h => by cases h), (fun _ _ => ⟨rfl, H0.out⟩)⟩

theorem cell_one_new' (w : World) (x : Value) (t : TypeId) : ∀ j u, [x][j]? = some u → (w.alloc (.cells #[x] t)).cell? ((⟨w.heap.size, 0, none⟩ : Addr).add j) = some u := by
  intro j u hj
  match j, hj with
  | 0, hj =>
    simp at hj
    subst hj
    simp [Addr.add]
/-- The first k lines' dirty ones. -/
def rdirtyN (R : RSt) (k : Nat) : List Int := ((List.range k).filter (fun i => R.dirty.getD i false)).map Int.ofNat
theorem rdirtyN_succ (k : Nat) : rdirtyN R (k + 1) = rdirtyN R k ++ (if R.dirty.getD k false = true then [(k : Int)] else []) := by
  unfold rdirtyN
  rw [List.range_succ, List.filter_append, List.map_append]
  congr 1
  cases h : R.dirty.getD k false with
  | false => rw [if_neg (by simp)]; rw [List.filter_cons_of_neg (by rw [h]; simp)]; rfl
  | true => rw [if_pos rfl, List.filter_cons_of_pos (by rw [h])]; rfl
theorem rdirtyN_len (k : Nat) : (rdirtyN R k).length ≤ k := by
  unfold rdirtyN
  rw [List.length_map]
  exact Nat.le_trans (List.length_filter_le _ _) (by simp)
set_option maxRecDepth 100000 in
theorem rdirty_any (hd : RDev w G q R) :
    Calls Try.prog 41 #[.pointer (some ⟨q, 0, none⟩)] w fun e w' => ∃ ao c, e = .returned (.slice ao (rdirtyN R R.n).length c) ∧ Own .i64 3 w.heap.size w' ao (rdirtyN R R.n).length c (rdirtyN R R.n) ∧ Below w.heap.size w w' := by
  have hn9 := hd.ok.n1
  obtain ⟨i0, hi, hz0, hz1, hz2⟩ := info_parts Try.info3
  go_enter Try.func41, Try.ntmps41
  go_wp2
  go_loopw [3, 4] (fun l t wr => ∃ (k : Nat) (ao : Option Addr) (c : Nat), k ≤ R.n ∧ t = .int .i64 k ∧ l = .slice ao (rdirtyN R k).length c ∧ Own .i64 3 w.heap.size wr ao (rdirtyN R k).length c (rdirtyN R k) ∧ Below w.heap.size w wr) (fun _ t _ => R.n - (intOf t).toNat)
  case atStart => exact ⟨0, none, 0, Nat.zero_le _, rfl, rfl, own_nil _ _ _ _, Below.refl _ _⟩
  case round =>
    obtain ⟨k, ao, c, hk, rfl, rfl, hown, hb⟩ := hrel
    have hdk := hd.below hb
    obtain ⟨lb, lc, sb, sc, db, fb, hdk⟩ := hdk
    obtain ⟨c0, c1, c2, c3, c4, c5⟩ := rdev_cells hdk.obj
    by_cases hlt : k < R.n
    · obtain ⟨x1, x2⟩ := bool_cell hdk.dirty (i := k) (by rw [hdk.ok.l2]; omega)
      have hki : (k : Int) < R.n := by omega
      have HS := hid (rdirtyN_succ (R := R) k)
      have hln := rdirtyN_len (R := R) k
      cases hq : R.dirty.getD k false with
      | false =>
        rw [hq] at x1 HS
        have HS' : Hid (rdirtyN R (k + 1) = rdirtyN R k) := hid (by rw [HS.out]; simp)
        generalize rdirtyN R k = Z at *
        have H := hid hown
        clear hdk hown
        go_wp2
        go_roundw
        case rel => exact ⟨k + 1, ao, c, by omega, by go_num, by rw [HS'.out], by rw [HS'.out]; exact H.out, hb⟩
        case measure => simp [intOf]; omega
      | true =>
        rw [hq] at x1 HS
        have HS' : Hid (rdirtyN R (k + 1) = rdirtyN R k ++ [(k : Int)]) := hid (by rw [HS.out]; simp)
        generalize rdirtyN R k = Z at *
        have hbA : Below wr.heap.size wr (wr.alloc (.cells #[.int .i64 k] 3)) := (Below.refl _ _).alloc (Nat.le_refl _) _
        have hownA := hown.below hbA
        have hblA := next hb hbA
        have hszA := hblA.size
        have hZ8 : (Z.length + 1) * 8 ≤ 140737488355328 := by omega
        have hZm : Z.length + 1 ≤ maxLen := by unfold maxLen; omega
        clear hdk hown HS
        go_wp2_with (at_builtin; refine wpList_append_own _ rfl (.tmp 21) (.tmp 23) 50 rfl w.heap.size 3 i0 (.int .i64 0) 1 8 Try.underlying50 hi hz0 hz1 hz2 rfl (by decide) _ Z.length _ rfl hownA.row ⟨wr.heap.size, 0, none⟩ 1 1 [.int .i64 k] rfl rfl (cell_one_new' _ _ _) (by intro u hu; simp at hu; subst hu; rfl) hZm hZ8 hszA ?_; intro v' w' hown' hgrow hnil; rcases own_slice hown' with ⟨bo', c', rfl⟩; have hb' := hblA.grown hgrow hszA (fun b hb' => (hownA.row.lt b hb').1))
        go_roundw
        case rel => exact ⟨k + 1, bo', c', by omega, by go_num, by rw [HS'.out]; simp, ⟨rfl, by rw [HS'.out]; simpa using hown'⟩, hb'⟩
        case measure => simp [intOf]; omega
    · obtain rfl : k = R.n := by omega
      clear hdk
      go_wp2
      go_ret
      exact ⟨ao, c, rfl, hown, hb⟩
end
end Go.Proofs.Ytcelmnhdchfhiaa
