/- RStore · RFence · RCrash · RCrashB: these texts, one behind another. -/
import Derived.Test.YtgiippbjieecmaaGreatMgJ
import Derived.Test.YtgiippbjieecmaaGreatSpliceStep
/- joistref03's Store, Flush, lasting, Dirty, Fence, Load by their contracts. -/
namespace Go.Proofs.YtgiippbjieecmaaGreat
set_option maxRecDepth 100000
open Go.RowKit
set_option linter.unusedVariables false

section
variable {w : World} {G : Nat → Prop} {q : Nat} {R : RSt}
theorem rask_zero {a n : Int} (h : raskE R a n = 0) : R.down = false ∧ 0 ≤ a ∧ 0 ≤ n ∧ n ≤ ((64 * R.n : Nat) : Int) - a := by
  unfold raskE at h
  cases hd : R.down with
  | true => rw [hd] at h; simp at h
  | false =>
    rw [hd] at h
    rw [if_neg (by simp)] at h
    by_cases h1 : a < 0 ∨ n < 0 ∨ n > ((64 * R.n : Nat) : Int) - a
    · rw [if_pos h1] at h; cases h
    · exact ⟨rfl, by omega, by omega, by omega⟩
theorem rstepS_same : (rstepS R).n = R.n ∧ (rstepS R).lasts = R.lasts ∧ (rstepS R).seen = R.seen ∧ (rstepS R).dirty = R.dirty ∧ (rstepS R).flushed = R.flushed := by
  unfold rstepS
  split <;> exact ⟨rfl, rfl, rfl, rfl, rfl⟩
/-- A byte more is stored. -/
def rput (R : RSt) (i : Nat) (z : Int) : RSt := { R with seen := R.seen.set i z, dirty := R.dirty.set (i / 64) true, flushed := R.flushed.set (i / 64) false }
def rputs (R : RSt) (i : Nat) (ys : List Int) : Nat → RSt
  | 0 => R
  | k + 1 => rput (rputs R i ys k) (i + k) (ys.getD k 0)
theorem rputs_n (i : Nat) (ys : List Int) (k : Nat) : (rputs R i ys k).n = R.n := by
  induction k with
  | zero => rfl
  | succ k ih => exact ih
theorem set_bytes {zs : List Int} (h : Bytes zs) (i : Nat) {z : Int} (hz : 0 ≤ z ∧ z ≤ 255) : Bytes (zs.set i z) := fun y hy => by
  rcases List.mem_or_eq_of_mem_set hy with h1 | h1
  · exact h y h1
  · rw [h1]; exact hz

set_option maxRecDepth 100000 in
set_option maxHeartbeats 1000000 in
theorem rstore_any (hd : RDev w G q R) (a : Int) (ao : Option Addr) (m cap : Nat) (ys : List Int) (ha : Rg a) (hsl : Sl .u8 w ao m cap ys) (hby : Bytes ys) (hm9 : m ≤ 9223372036854775807) (hno : 0 < m → ∀ c, ao = some c → ¬ G c.block) :
    Calls Tryz.prog 53 #[.pointer (some ⟨q, 0, none⟩), .int .i64 a, .slice ao m cap] w fun e w' => Goes G w G w' ∧
      (raskE R a m ≠ 0 → e = .returned (.int .i64 (raskE R a m)) ∧ RDev w' G q R) ∧
      (raskE R a m = 0 → rstepB R = true → e = .returned (.int .i64 5) ∧ RDev w' G q (rstepS R)) ∧
      (raskE R a m = 0 → rstepB R = false → e = .returned (.int .i64 0) ∧ RDev w' G q (rputs (rstepS R) a.toNat ys m)) := by
  have cA := rasks_any hd a m ha ⟨by omega, by omega⟩
  by_cases hE : raskE R a m = 0
  · obtain ⟨k1, k2, k3, k4⟩ := rask_zero hE
    rw [hE] at cA
    obtain ⟨i, rfl⟩ : ∃ i : Nat, a = i := ⟨a.toNat, by omega⟩
    rw [Int.toNat_natCast]
    have cS := rstep_any hd k1
    have hn1 := hd.ok.n1
    cases hB : rstepB R with
    | true =>
      rw [hB] at cS
      clear hd
      go_enter Tryz.func53, Tryz.ntmps53
      go_wp2_with (first
        | (go_at_call 77; with_reducible refine cA.mono ?_; rintro e w1 ⟨rfl, rfl⟩)
        | (go_at_call 78; with_reducible refine cS.mono ?_; rintro e w2 ⟨rfl, d2, g2⟩))
      go_ret
      exact ⟨g2, (fun h => absurd hE h), (fun _ _ => ⟨rfl, d2⟩), (fun _ h => by cases h)⟩
    | false =>
      rw [hB] at cS
      have hSn : (rstepS R).n = R.n := rstepS_same.1
      clear hd
      go_enter Tryz.func53, Tryz.ntmps53
      go_wp2_with (first
        | (go_at_call 77; with_reducible refine cA.mono ?_; rintro e w1 ⟨rfl, rfl⟩)
        | (go_at_call 78; with_reducible refine cS.mono ?_; rintro e w2 ⟨rfl, d2, g2⟩))
      go_loopw [8] (fun t wr => ∃ k : Nat, k ≤ m ∧ t = .int .i64 k ∧ RDev wr G q (rputs (rstepS R) i ys k) ∧ Goes G w G wr) (fun t _ => m - (intOf t).toNat)
      case atStart => exact ⟨0, Nat.zero_le _, rfl, d2, g2⟩
      case round =>
        clear d2 g2
        obtain ⟨k, hk, rfl, hdk, hg⟩ := hrel
        by_cases hlt : k < m
        · obtain ⟨lb, lc, sb, sc, db, fb, hdk⟩ := hdk
          have hTn : (rputs (rstepS R) i ys k).n = R.n := (rputs_n i ys k).trans hSn
          have HT : Hid (rputs (rstepS R) i ys (k + 1) = rput (rputs (rstepS R) i ys k) (i + k) (ys.getD k 0)) := hid rfl
          generalize rputs (rstepS R) i ys k = T at *
          have hokT := hdk.ok
          obtain ⟨b, off, rfl, hlt2, _⟩ := hsl.here (by omega)
          have hslr := hsl.off hg.off hno
          obtain ⟨b', off', eb, _, hc⟩ := hslr.here (by omega)
          simp only [Option.some.injEq, Addr.mk.injEq, and_true] at eb
          obtain ⟨rfl, rfl⟩ := eb
          obtain ⟨y, hy⟩ : ∃ y, ys.getD k 0 = y := ⟨_, rfl⟩
          have hcy := hc k hlt
          rw [hy] at hcy HT
          have hyb : 0 ≤ y ∧ y ≤ 255 := by rw [← hy]; exact hby.at k
          obtain ⟨cs0, cs1, cs2, cs3, cs4, cs5⟩ := rdev_cells hdk.obj
          obtain ⟨P, hP⟩ : ∃ P, i + k = P := ⟨_, rfl⟩
          obtain ⟨Q, hQ⟩ : ∃ Q, P / 64 = Q := ⟨_, rfl⟩
          rw [hP] at HT
          have eP : (i : Int) + k = (P : Int) := by omega
          have eQ : (P : Int) / 64 = (Q : Int) := by omega
          have hPL : P < 64 * T.n := by omega
          have hline : Q < T.n := by omega
          have hdd : RDevAt wr.drew G q T lb lc sb sc db fb := hdk.same (Nat.le_refl _) (fun _ _ => rfl)
          have o1 := hdd.seen.set P y
          have g1 : wr.drew.grownBy (wr.drew.setCell ⟨sb, P, none⟩ (.int .u8 y)) (some sb) := (hdd.seen.row.stored P (.int .u8 y)).2
          have d1 := hdd.seeing g1 o1 (set_bytes hokT.b1 _ hyb)
          have hgo1 : Goes G wr G (wr.drew.setCell ⟨sb, P, none⟩ (.int .u8 y)) := (Goes.drewN (Goes.refl G wr) 1).trans (hdd.goes hdd.gs g1)
          obtain ⟨cur, hcur, hcs, _⟩ := hdk.seen.block
          have hcap := hdk.seen.cap_le
          have hf1 := frozen_of_row _ sb P cur 5 hcur
          have hc1 : ∃ v, wr.cell? ⟨sb, P, none⟩ = some v := by
            rw [cell_of_row _ sb P cur 5 (0, 0) hcur]
            have hsz : P < cur.size := by omega
            exact ⟨cur[P], Array.getElem?_eq_getElem hsz⟩
          obtain ⟨v, hc1⟩ := hc1
          have D5 : RDevAt (wr.setCell ⟨sb, P, none⟩ (.int .u8 y)).drew G q { T with seen := T.seen.set P y } lb lc sb sc db fb := d1
          obtain ⟨u0, u1, u2, u3, u4, u5⟩ := rdev_cells D5.obj
          obtain ⟨x1, x2⟩ := bool_cell D5.dirty (i := Q) (by rw [D5.ok.l2]; exact hline)
          obtain ⟨d2, g2⟩ := D5.dirtied Q true
          have D6 : RDevAt ((wr.setCell ⟨sb, P, none⟩ (.int .u8 y)).setCell ⟨db, Q, none⟩ (.bool true)).drew G q { T with seen := T.seen.set P y, dirty := T.dirty.set Q true } lb lc sb sc db fb := d2
          obtain ⟨v0, v1, v2, v3, v4, v5⟩ := rdev_cells D6.obj
          obtain ⟨x3, x4⟩ := bool_cell D6.flushed (i := Q) (by rw [D6.ok.l3]; exact hline)
          obtain ⟨d3, g3⟩ := D6.flushedTo Q false
          have hgo2 := (hgo1.trans (D5.goes D5.gd g2)).trans (D6.goes D6.gf g3)
          have H7 : Hid (RDev (((wr.setCell ⟨sb, P, none⟩ (.int .u8 y)).setCell ⟨db, Q, none⟩ (.bool true)).setCell ⟨fb, Q, none⟩ (.bool false)).drew G q (rputs (rstepS R) i ys (k + 1))) := hid (by
            rw [HT.out, rput, hQ]
            exact ⟨_, _, _, _, _, _, d3⟩)
          have HG7 : Hid (Goes G w G (((wr.setCell ⟨sb, P, none⟩ (.int .u8 y)).setCell ⟨db, Q, none⟩ (.bool true)).setCell ⟨fb, Q, none⟩ (.bool false)).drew) := hid (hg.trans hgo2)
          obtain ⟨L, hL⟩ : ∃ L, 64 * T.n = L := ⟨_, rfl⟩
          simp only at u0 u1 u2 u3 v0 v1 v2 v3
          rw [hL] at cs0 cs1 hPL u0 u1 v0 v1
          have hL9 : L ≤ 262144 := by have := hokT.n1; omega
          have hn9 : T.n ≤ 4096 := hokT.n1
          simp only at x1 x2 x3 x4
          generalize T.dirty.getD Q false = zz1 at *
          generalize T.flushed.getD Q false = zz2 at *
          generalize T.n = TN at *
          clear hdd o1 g1 d1 hgo1 hcur hdk hslr hc hP hQ D5 d2 g2 D6 d3 g3 hgo2 hL hokT
          go_wp2
          go_region
          all_goals
            go_wp2
            go_roundw
            case rel => exact ⟨k + 1, by omega, by go_num, H7.out, HG7.out⟩
            case measure => simp [intOf]; omega
        · obtain rfl : k = m := by omega
          go_wp2
          go_ret
          exact ⟨hg, (fun h => absurd hE h), (fun _ h => by cases h), (fun _ _ => ⟨rfl, hdk⟩)⟩
  · have hne : (raskE R a m != 0) = true := by simpa using hE
    generalize raskE R a m = E at *
    have H := hid hd
    clear hd
    go_enter Tryz.func53, Tryz.ntmps53
    go_wp2_with (go_at_call 77; with_reducible refine cA.mono ?_; rintro e w1 ⟨rfl, rfl⟩)
    go_ret
    exact ⟨Goes.refl _ _, (fun _ => ⟨rfl, H.out⟩), (fun h => absurd h hE), (fun h => absurd h hE)⟩
end
end Go.Proofs.YtgiippbjieecmaaGreat
/- joistref03's Flush, lasting, Fence by their contracts. -/
namespace Go.Proofs.YtgiippbjieecmaaGreat
set_option maxRecDepth 100000
open Go.RowKit
set_option linter.unusedVariables false

section
variable {w : World} {G : Nat → Prop} {q : Nat} {R : RSt}
def rfl1 (S : RSt) (Q : Nat) : RSt := { S with flushed := S.flushed.set Q (S.dirty.getD Q false) }
def rflushN (R : RSt) (i : Nat) : Nat → RSt
  | 0 => R
  | k + 1 => rfl1 (rflushN R i k) ((i + k) / 64)
theorem rflushN_n (i k : Nat) : (rflushN R i k).n = R.n := by
  induction k with
  | zero => rfl
  | succ k ih => exact ih

set_option maxRecDepth 100000 in
set_option maxHeartbeats 1000000 in
theorem rflush_any (hd : RDev w G q R) (a m : Int) (ha : Rg a) (hm : Rg m) :
    Calls Tryz.prog 54 #[.pointer (some ⟨q, 0, none⟩), .int .i64 a, .int .i64 m] w fun e w' => Goes G w G w' ∧
      (raskE R a m ≠ 0 → e = .returned (.int .i64 (raskE R a m)) ∧ RDev w' G q R) ∧
      (raskE R a m = 0 → rstepB R = true → e = .returned (.int .i64 5) ∧ RDev w' G q (rstepS R)) ∧
      (raskE R a m = 0 → rstepB R = false → e = .returned (.int .i64 0) ∧ RDev w' G q (rflushN (rstepS R) a.toNat m.toNat)) := by
  have cA := rasks_any hd a m ha hm
  by_cases hE : raskE R a m = 0
  · obtain ⟨k1, k2, k3, k4⟩ := rask_zero hE
    rw [hE] at cA
    obtain ⟨i, rfl⟩ : ∃ i : Nat, a = i := ⟨a.toNat, by omega⟩
    obtain ⟨n, rfl⟩ : ∃ n : Nat, m = n := ⟨m.toNat, by omega⟩
    rw [Int.toNat_natCast, Int.toNat_natCast]
    have cS := rstep_any hd k1
    have hn1 := hd.ok.n1
    cases hB : rstepB R with
    | true =>
      rw [hB] at cS
      clear hd
      go_enter Tryz.func54, Tryz.ntmps54
      go_wp2_with (first
        | (go_at_call 77; with_reducible refine cA.mono ?_; rintro e w1 ⟨rfl, rfl⟩)
        | (go_at_call 78; with_reducible refine cS.mono ?_; rintro e w2 ⟨rfl, d2, g2⟩))
      go_ret
      exact ⟨g2, (fun h => absurd hE h), (fun _ _ => ⟨rfl, d2⟩), (fun _ h => by cases h)⟩
    | false =>
      rw [hB] at cS
      have hSn : (rstepS R).n = R.n := rstepS_same.1
      clear hd
      go_enter Tryz.func54, Tryz.ntmps54
      go_wp2_with (first
        | (go_at_call 77; with_reducible refine cA.mono ?_; rintro e w1 ⟨rfl, rfl⟩)
        | (go_at_call 78; with_reducible refine cS.mono ?_; rintro e w2 ⟨rfl, d2, g2⟩))
      go_loopw [8] (fun t wr => ∃ k : Nat, k ≤ n ∧ t = .int .i64 k ∧ RDev wr G q (rflushN (rstepS R) i k) ∧ Goes G w G wr) (fun t _ => n - (intOf t).toNat)
      case atStart => exact ⟨0, Nat.zero_le _, rfl, d2, g2⟩
      case round =>
        clear d2 g2
        obtain ⟨k, hk, rfl, hdk, hg⟩ := hrel
        by_cases hlt : k < n
        · obtain ⟨lb, lc, sb, sc, db, fb, hdk⟩ := hdk
          have hTn : (rflushN (rstepS R) i k).n = R.n := (rflushN_n i k).trans hSn
          have HT : Hid (rflushN (rstepS R) i (k + 1) = rfl1 (rflushN (rstepS R) i k) ((i + k) / 64)) := hid rfl
          generalize rflushN (rstepS R) i k = T at *
          have hokT := hdk.ok
          obtain ⟨cs0, cs1, cs2, cs3, cs4, cs5⟩ := rdev_cells hdk.obj
          obtain ⟨P, hP⟩ : ∃ P, i + k = P := ⟨_, rfl⟩
          obtain ⟨Q, hQ⟩ : ∃ Q, P / 64 = Q := ⟨_, rfl⟩
          rw [hP, hQ] at HT
          have eP : (i : Int) + k = (P : Int) := by omega
          have eQ : (P : Int) / 64 = (Q : Int) := by omega
          have hline : Q < T.n := by omega
          have hdd : RDevAt wr.drew G q T lb lc sb sc db fb := hdk.same (Nat.le_refl _) (fun _ _ => rfl)
          obtain ⟨x1, x2⟩ := bool_cell hdk.dirty (i := Q) (by rw [hdk.ok.l2]; exact hline)
          obtain ⟨x3, x4⟩ := bool_cell hdk.flushed (i := Q) (by rw [hdk.ok.l3]; exact hline)
          obtain ⟨d3, g3⟩ := hdd.flushedTo Q (T.dirty.getD Q false)
          have hgo : Goes G wr G _ := (Goes.drewN (Goes.refl G wr) 1).trans (hdd.goes hdd.gf g3)
          have H7 : Hid (RDev (wr.setCell ⟨fb, Q, none⟩ (.bool (T.dirty.getD Q false))).drew G q (rflushN (rstepS R) i (k + 1))) := hid (by
            rw [HT.out]
            exact ⟨_, _, _, _, _, _, d3⟩)
          have HG7 : Hid (Goes G w G (wr.setCell ⟨fb, Q, none⟩ (.bool (T.dirty.getD Q false))).drew) := hid (hg.trans hgo)
          have hn9 : T.n ≤ 4096 := hokT.n1
          have hfd := hdk.df
          generalize T.dirty.getD Q false = zz1 at *
          generalize T.flushed.getD Q false = zz2 at *
          generalize T.n = TN at *
          have hkn : (k : Int) < n := by omega
          clear hdd hdk d3 g3 hgo hokT hP hQ
          go_wp2
          go_region
          all_goals
            go_wp2
            go_roundw
            case rel => exact ⟨k + 1, by omega, by go_num, H7.out, HG7.out⟩
            case measure => simp [intOf]; omega
        · obtain rfl : k = n := by omega
          go_wp2
          go_ret
          exact ⟨hg, (fun h => absurd hE h), (fun _ h => by cases h), (fun _ _ => ⟨rfl, hdk⟩)⟩
  · have hne : (raskE R a m != 0) = true := by simpa using hE
    generalize raskE R a m = E at *
    have H := hid hd
    clear hd
    go_enter Tryz.func54, Tryz.ntmps54
    go_wp2_with (go_at_call 77; with_reducible refine cA.mono ?_; rintro e w1 ⟨rfl, rfl⟩)
    go_ret
    exact ⟨Goes.refl _ _, (fun _ => ⟨rfl, H.out⟩), (fun h => absurd h hE), (fun h => absurd h hE)⟩

/-- What is seen of line k lasts. -/
def rlast (R : RSt) (k : Nat) : RSt := { R with lasts := splice R.lasts (64 * k) (lineAt R.seen k) }
def rlastT (R : RSt) (k t : Nat) : RSt := { R with lasts := splice R.lasts (64 * k) ((lineAt R.seen k).take t) }
set_option maxRecDepth 100000 in
set_option maxHeartbeats 1000000 in
theorem rlasting_any (hd : RDev w G q R) (k : Nat) (hk : k < R.n) :
    Calls Tryz.prog 42 #[.pointer (some ⟨q, 0, none⟩), .int .i64 k] w fun e w' => e = .returned (.tuple #[]) ∧ RDev w' G q (rlast R k) ∧ Goes G w G w' := by
  have hok := hd.ok
  have hn9 := hok.n1
  have h0 : rlastT R k 0 = R := by unfold rlastT; rw [splice_zero]
  have hl64 : (lineAt R.seen k).length = 64 := by unfold lineAt; simp; have := hok.l1; omega
  have h64 : rlastT R k 64 = rlast R k := by unfold rlastT rlast; rw [List.take_of_length_le (by omega)]
  obtain ⟨A, hA⟩ : ∃ A, 64 * k = A := ⟨_, rfl⟩
  have eA : (64 : Int) * k = (A : Int) := by omega
  have eB : (64 : Int) * ((k : Int) + 1) = (A : Int) + 64 := by omega
  have hd0 : RDev w G q (rlastT R k 0) := by rw [h0]; exact hd
  clear hd
  go_enter Tryz.func42, Tryz.ntmps42
  go_wp2
  go_loopw [4] (fun t wr => ∃ j : Nat, j ≤ 64 ∧ t = .int .i64 (A + j : Nat) ∧ RDev wr G q (rlastT R k j) ∧ Goes G w G wr) (fun t _ => A + 64 - (intOf t).toNat)
  case atStart => exact ⟨0, Nat.zero_le _, rfl, hd0, Goes.refl _ _⟩
  case round =>
    clear hd0
    obtain ⟨j, hj, rfl, hdk, hg⟩ := hrel
    by_cases hlt : j < 64
    · obtain ⟨lb, lc, sb, sc, db, fb, hdk⟩ := hdk
      obtain ⟨P, hP⟩ : ∃ P, A + j = P := ⟨_, rfl⟩
      have hPi : (P : Int) < (A : Int) + 64 := by omega
      have hPn : P < 64 * R.n := by omega
      obtain ⟨cs0, cs1, cs2, cs3, cs4, cs5⟩ := rdev_cells hdk.obj
      have hdd : RDevAt wr.drew G q (rlastT R k j) lb lc sb sc db fb := hdk.same (Nat.le_refl _) (fun _ _ => rfl)
      obtain ⟨y, hy⟩ : ∃ y, R.seen.getD P 0 = y := ⟨_, rfl⟩
      have hcy : wr.cell? ⟨sb, P, none⟩ = some (.int .u8 y) := hdk.seen.at P hPn hy
      have hyb : 0 ≤ y ∧ y ≤ 255 := by rw [← hy]; exact hok.b1.at P
      have hyl : (lineAt R.seen k).getD j 0 = y := by
        rw [← hy, lineAt]
        simp [List.getD, hlt]
        rw [← hP, ← hA]
      have o1 := hdd.lasts.set P y
      have g1 : wr.drew.grownBy (wr.drew.setCell ⟨lb, P, none⟩ (.int .u8 y)) (some lb) := (hdd.lasts.row.stored P (.int .u8 y)).2
      have d1 := hdd.lastingTo g1 o1 (set_bytes hdd.ok.b0 _ hyb)
      have e1 : ({ rlastT R k j with lasts := (rlastT R k j).lasts.set P y } : RSt) = rlastT R k (j + 1) := by
        unfold rlastT
        simp only
        rw [← hP, ← hA, ← hyl, splice_step (by omega) (by rw [hl64, hok.l0]; omega)]
      rw [e1] at d1
      have hgo : Goes G wr G _ := (Goes.drewN (Goes.refl G wr) 1).trans (hdd.goes hdd.gl g1)
      have H7 : Hid (RDev (wr.setCell ⟨lb, P, none⟩ (.int .u8 y)).drew G q (rlastT R k (j + 1))) := hid ⟨_, _, _, _, _, _, d1⟩
      have HG7 : Hid (Goes G w G (wr.setCell ⟨lb, P, none⟩ (.int .u8 y)).drew) := hid (hg.trans hgo)
      obtain ⟨cur, hcur, hcs, _⟩ := hdk.lasts.block
      have hcap := hdk.lasts.cap_le
      have hf1 := frozen_of_row _ lb P cur 5 hcur
      have hc1 : ∃ v, wr.cell? ⟨lb, P, none⟩ = some v := by
        rw [cell_of_row _ lb P cur 5 (0, 0) hcur]
        have hsz : P < cur.size := by have : (rlastT R k j).n = R.n := rfl; omega
        exact ⟨cur[P], Array.getElem?_eq_getElem hsz⟩
      obtain ⟨v, hc1⟩ := hc1
      have HP : Hid (A + (j + 1) = P + 1) := hid (by omega)
      have hTn : (rlastT R k j).n = R.n := rfl
      rw [hTn] at cs0 cs1 cs2 cs3
      obtain ⟨L, hL⟩ : ∃ L, 64 * R.n = L := ⟨_, rfl⟩
      rw [hL] at cs0 cs1 hPn
      have hL9 : L ≤ 262144 := by omega
      have hls := hdk.ls
      rw [hP]
      clear hdd o1 g1 d1 hgo hcur hdk hP hyl hy hL e1
      go_wp2
      go_region
      all_goals
        go_wp2
        go_roundw
        case rel => exact ⟨j + 1, by omega, by rw [HP.out]; go_num, H7.out, HG7.out⟩
        case measure => simp [intOf]; omega
    · obtain rfl : j = 64 := by omega
      have hnl : ¬ (((A + 64 : Nat) : Int) < (A : Int) + 64) := by omega
      rw [h64] at hdk
      go_wp2
      go_end0
      exact ⟨rfl, hdk, hg⟩
end
end Go.Proofs.YtgiippbjieecmaaGreat
/- joistref03's Load, Fence, Dirty, Crash by their contracts. -/
namespace Go.Proofs.YtgiippbjieecmaaGreat
set_option maxRecDepth 100000
open Go.RowKit
set_option linter.unusedVariables false

section
variable {w : World} {G : Nat → Prop} {q : Nat} {R : RSt}
theorem slice_to {ao : Option Addr} {m m' c : Nat} (h : m = m') : Value.slice ao m c = .slice ao m' c := by rw [h]
/-- What the round of Fence finds behind lasting, and leaves. -/
theorem rfen_facts {T : RSt} {N k : Nat} (hd : RDev w G q T) (hn : T.n = N) (hk : k < N) : ∃ db fb, w.cell? ⟨q, 2, none⟩ = some (.slice (some ⟨db, 0, none⟩) N N) ∧ w.cell? ⟨q, 3, none⟩ = some (.slice (some ⟨fb, 0, none⟩) N N) ∧
    (w.setCell ⟨db, k, none⟩ (.bool false)).cell? ⟨q, 3, none⟩ = some (.slice (some ⟨fb, 0, none⟩) N N) ∧ w.cell? ⟨db, k, none⟩ = some (.bool (T.dirty.getD k false)) ∧ w.frozen? ⟨db, k, none⟩ = false ∧
    (w.setCell ⟨db, k, none⟩ (.bool false)).cell? ⟨fb, k, none⟩ = some (.bool (T.flushed.getD k false)) ∧ (w.setCell ⟨db, k, none⟩ (.bool false)).frozen? ⟨fb, k, none⟩ = false ∧
    Hid (RDev ((w.setCell ⟨db, k, none⟩ (.bool false)).setCell ⟨fb, k, none⟩ (.bool false)) G q { T with dirty := T.dirty.set k false, flushed := T.flushed.set k false }) ∧ Hid (Goes G w G ((w.setCell ⟨db, k, none⟩ (.bool false)).setCell ⟨fb, k, none⟩ (.bool false))) := by
  subst hn
  obtain ⟨lb, lc, sb, sc, db, fb, d3⟩ := hd
  obtain ⟨_, _, z1, z2, _, _⟩ := rdev_cells d3.obj
  obtain ⟨y1, y2⟩ := bool_cell d3.dirty (i := k) (by rw [d3.ok.l2]; exact hk)
  obtain ⟨d4, g4⟩ := d3.dirtied k false
  obtain ⟨_, _, _, z3, _, _⟩ := rdev_cells d4.obj
  obtain ⟨y3, y4⟩ := bool_cell d4.flushed (i := k) (by rw [d4.ok.l3]; exact hk)
  obtain ⟨d5, g5⟩ := d4.flushedTo k false
  exact ⟨db, fb, z1, z2, z3, y1, y2, y3, y4, hid ⟨_, _, _, _, _, _, d5⟩, hid ((d3.goes d3.gd g4).trans (d4.goes d4.gf g5))⟩
def rfen1 (S : RSt) (k : Nat) : RSt := if S.flushed.getD k false = true then { rlast S k with dirty := S.dirty.set k false, flushed := S.flushed.set k false } else S
def rfenceN (R : RSt) : Nat → RSt
  | 0 => R
  | k + 1 => rfen1 (rfenceN R k) k
theorem rfen1_n (S : RSt) (k : Nat) : (rfen1 S k).n = S.n := by unfold rfen1; split <;> rfl
theorem rfenceN_n (k : Nat) : (rfenceN R k).n = R.n := by
  induction k with
  | zero => rfl
  | succ k ih => exact (rfen1_n _ _).trans ih
set_option maxRecDepth 100000 in
set_option maxHeartbeats 1000000 in
theorem rfence_any (hd : RDev w G q R) :
    Calls Tryz.prog 55 #[.pointer (some ⟨q, 0, none⟩)] w fun e w' => Goes G w G w' ∧
      (R.down = true → e = .returned (.int .i64 5) ∧ RDev w' G q R) ∧
      (R.down = false → rstepB R = true → e = .returned (.int .i64 5) ∧ RDev w' G q (rstepS R)) ∧
      (R.down = false → rstepB R = false → e = .returned (.int .i64 0) ∧ RDev w' G q (rfenceN (rstepS R) R.n)) := by
  have hok := hd.ok
  have hn9 := hok.n1
  cases hdn : R.down with
  | true =>
    have H := hid hd
    obtain ⟨lb, lc, sb, sc, db, fb, hd⟩ := hd
    obtain ⟨c0, c1, c2, c3, c4, c5⟩ := rdev_cells hd.obj
    rw [hdn] at c5
    clear hd
    go_enter Tryz.func55, Tryz.ntmps55
    go_wp2
    go_ret
    exact ⟨Goes.refl _ _, (fun _ => ⟨rfl, H.out⟩), (fun h => by cases h), (fun h => by cases h)⟩
  | false =>
    have cS := rstep_any hd hdn
    obtain ⟨lb, lc, sb, sc, db, fb, hd⟩ := hd
    obtain ⟨c0, c1, c2, c3, c4, c5⟩ := rdev_cells hd.obj
    rw [hdn] at c5
    clear hd
    cases hB : rstepB R with
    | true =>
      rw [hB] at cS
      go_enter Tryz.func55, Tryz.ntmps55
      go_wp2_with (go_at_call 78; with_reducible refine cS.mono ?_; rintro e w2 ⟨rfl, d2, g2⟩)
      go_ret
      exact ⟨g2, (fun h => by cases h), (fun _ _ => ⟨rfl, d2⟩), (fun _ h => by cases h)⟩
    | false =>
      rw [hB] at cS
      have hSn : (rstepS R).n = R.n := rstepS_same.1
      go_enter Tryz.func55, Tryz.ntmps55
      go_wp2_with (go_at_call 78; with_reducible refine cS.mono ?_; rintro e w2 ⟨rfl, d2, g2⟩)
      go_loopw [3] (fun t wr => ∃ k : Nat, k ≤ R.n ∧ t = .int .i64 k ∧ RDev wr G q (rfenceN (rstepS R) k) ∧ Goes G w G wr) (fun t _ => R.n - (intOf t).toNat)
      case atStart => exact ⟨0, Nat.zero_le _, rfl, d2, g2⟩
      case round =>
        clear d2 g2 c0 c1 c2 c3 c4 c5
        obtain ⟨k, hk, rfl, hdk, hg⟩ := hrel
        have hTn : (rfenceN (rstepS R) k).n = R.n := (rfenceN_n k).trans hSn
        have HT : Hid (rfenceN (rstepS R) (k + 1) = rfen1 (rfenceN (rstepS R) k) k) := hid rfl
        by_cases hlt : k < R.n
        · generalize rfenceN (rstepS R) k = T at *
          have cL := rlasting_any hdk k (by omega)
          have H0 := hid hdk
          obtain ⟨lb, lc, sb, sc, db, fb, hdk⟩ := hdk
          obtain ⟨c0, c1, c2, c3, c4, c5⟩ := rdev_cells hdk.obj
          obtain ⟨x3, x4⟩ := bool_cell hdk.flushed (i := k) (by rw [hdk.ok.l3]; omega)
          rw [hTn] at c2 c3
          have hki : (k : Int) < R.n := by omega
          cases hfl : T.flushed.getD k false with
          | false =>
            rw [hfl] at x3
            have e1 : rfen1 T k = T := by unfold rfen1; rw [hfl]; rfl
            rw [e1] at HT
            clear hdk cL
            go_wp2
            go_roundw
            case rel => exact ⟨k + 1, by omega, by go_num, by rw [HT.out]; exact H0.out, hg⟩
            case measure => simp [intOf]; omega
          | true =>
            rw [hfl] at x3
            have e1 : rfen1 T k = { rlast T k with dirty := T.dirty.set k false, flushed := T.flushed.set k false } := by unfold rfen1; rw [if_pos hfl]
            rw [e1] at HT
            clear hdk
            have hln : (rlast T k).n = R.n := hTn
            go_wp2_with (first
              | (go_at_call 42; with_reducible refine cL.mono ?_; rintro e w3 ⟨rfl, d3, g3⟩; rcases rfen_facts d3 hln hlt with ⟨db3, fb3, z1, z2, z3, y1, y2, y3, y4, H5, HG⟩; have HG5 := hid (hg.trans (g3.trans HG.out))))
            go_roundw
            case rel => exact ⟨k + 1, by omega, by go_num, by rw [HT.out]; exact H5.out, HG5.out⟩
            case measure => simp [intOf]; omega
        · obtain rfl : k = R.n := by omega
          have H0 := hid hdk
          obtain ⟨lb, lc, sb, sc, db, fb, hdk⟩ := hdk
          obtain ⟨c0, c1, c2, c3, c4, c5⟩ := rdev_cells hdk.obj
          rw [hTn] at c2 c3
          clear hdk
          go_wp2
          go_ret
          exact ⟨hg, (fun h => by cases h), (fun _ h => by cases h), (fun _ _ => ⟨rfl, H0.out⟩)⟩

theorem cell_one_new' (w : World) (x : Value) (t : TypeId) : ∀ j u, [x][j]? = some u → (w.alloc (.cells #[x] t)).cell? ((⟨w.heap.size, 0, none⟩ : Addr).add j) = some u := by
  intro j u hj
  match j, hj with
  | 0, hj =>
    simp at hj
    subst hj
    simp [Addr.add]
/-- The first k lines' dirty ones. -/
def rdirtyN (R : RSt) (k : Nat) : List Int := ((List.range k).filter (fun i => R.dirty.getD i false)).map Int.ofNat
theorem rdirtyN_succ (k : Nat) : rdirtyN R (k + 1) = rdirtyN R k ++ (if R.dirty.getD k false = true then [(k : Int)] else []) := by
  unfold rdirtyN
  rw [List.range_succ, List.filter_append, List.map_append]
  congr 1
  cases h : R.dirty.getD k false with
  | false => rw [if_neg (by simp)]; rw [List.filter_cons_of_neg (by rw [h]; simp)]; rfl
  | true => rw [if_pos rfl, List.filter_cons_of_pos (by rw [h])]; rfl
theorem rdirtyN_len (k : Nat) : (rdirtyN R k).length ≤ k := by
  unfold rdirtyN
  rw [List.length_map]
  exact Nat.le_trans (List.length_filter_le _ _) (by simp)
set_option maxRecDepth 100000 in
theorem rdirty_any (hd : RDev w G q R) :
    Calls Tryz.prog 41 #[.pointer (some ⟨q, 0, none⟩)] w fun e w' => ∃ ao c, e = .returned (.slice ao (rdirtyN R R.n).length c) ∧ Own .i64 3 w.heap.size w' ao (rdirtyN R R.n).length c (rdirtyN R R.n) ∧ Below w.heap.size w w' := by
  have hn9 := hd.ok.n1
  obtain ⟨i0, hi, hz0, hz1, hz2⟩ := info_parts Tryz.info3
  go_enter Tryz.func41, Tryz.ntmps41
  go_wp2
  go_loopw [3, 4] (fun l t wr => ∃ (k : Nat) (ao : Option Addr) (c : Nat), k ≤ R.n ∧ t = .int .i64 k ∧ l = .slice ao (rdirtyN R k).length c ∧ Own .i64 3 w.heap.size wr ao (rdirtyN R k).length c (rdirtyN R k) ∧ Below w.heap.size w wr) (fun _ t _ => R.n - (intOf t).toNat)
  case atStart => exact ⟨0, none, 0, Nat.zero_le _, rfl, rfl, own_nil _ _ _ _, Below.refl _ _⟩
  case round =>
    obtain ⟨k, ao, c, hk, rfl, rfl, hown, hb⟩ := hrel
    have hdk := hd.below hb
    obtain ⟨lb, lc, sb, sc, db, fb, hdk⟩ := hdk
    obtain ⟨c0, c1, c2, c3, c4, c5⟩ := rdev_cells hdk.obj
    by_cases hlt : k < R.n
    · obtain ⟨x1, x2⟩ := bool_cell hdk.dirty (i := k) (by rw [hdk.ok.l2]; omega)
      have hki : (k : Int) < R.n := by omega
      have HS := hid (rdirtyN_succ (R := R) k)
      have hln := rdirtyN_len (R := R) k
      cases hq : R.dirty.getD k false with
      | false =>
        rw [hq] at x1 HS
        have HS' : Hid (rdirtyN R (k + 1) = rdirtyN R k) := hid (by rw [HS.out]; simp)
        generalize rdirtyN R k = Z at *
        have H := hid hown
        clear hdk hown
        go_wp2
        go_roundw
        case rel => exact ⟨k + 1, ao, c, by omega, by go_num, by rw [HS'.out], by rw [HS'.out]; exact H.out, hb⟩
        case measure => simp [intOf]; omega
      | true =>
        rw [hq] at x1 HS
        have HS' : Hid (rdirtyN R (k + 1) = rdirtyN R k ++ [(k : Int)]) := hid (by rw [HS.out]; simp)
        generalize rdirtyN R k = Z at *
        have hbA : Below wr.heap.size wr (wr.alloc (.cells #[.int .i64 k] 3)) := (Below.refl _ _).alloc (Nat.le_refl _) _
        have hownA := hown.below hbA
        have hblA := next hb hbA
        have hszA := hblA.size
        have hZ8 : (Z.length + 1) * 8 ≤ 140737488355328 := by omega
        have hZm : Z.length + 1 ≤ maxLen := by unfold maxLen; omega
        clear hdk hown HS
        go_wp2_with (at_builtin; refine wpList_append_own _ rfl (.tmp 21) (.tmp 23) 71 rfl w.heap.size 3 i0 (.int .i64 0) 1 8 Tryz.underlying71 hi hz0 hz1 hz2 rfl (by decide) _ Z.length _ rfl hownA.row ⟨wr.heap.size, 0, none⟩ 1 1 [.int .i64 k] rfl rfl (cell_one_new' _ _ _) (by intro u hu; simp at hu; subst hu; rfl) hZm hZ8 hszA ?_; intro v' w' hown' hgrow hnil; rcases own_slice hown' with ⟨bo', c', rfl⟩; have hb' := hblA.grown hgrow hszA (fun b hb' => (hownA.row.lt b hb').1))
        go_roundw
        case rel => exact ⟨k + 1, bo', c', by omega, by go_num, by rw [HS'.out]; simp, ⟨rfl, by rw [HS'.out]; simpa using hown'⟩, hb'⟩
        case measure => simp [intOf]; omega
    · obtain rfl : k = R.n := by omega
      clear hdk
      go_wp2
      go_ret
      exact ⟨ao, c, rfl, hown, hb⟩
end
end Go.Proofs.YtgiippbjieecmaaGreat
/- joistref03's Crash by its contract. -/
namespace Go.Proofs.YtgiippbjieecmaaGreat
set_option maxRecDepth 100000
open Go.RowKit
set_option linter.unusedVariables false

section
variable {w : World} {G : Nat → Prop} {q : Nat} {R : RSt}
/-- The first k dirty lines, as they are kept. -/
def rcr1 (S : RSt) (keep : List Bool) (k : Nat) (x : Int) : RSt := if keep.getD k false = true then rlast S x.toNat else S
def rcrashN (R : RSt) (l : List Int) (keep : List Bool) : Nat → RSt
  | 0 => R
  | k + 1 => rcr1 (rcrashN R l keep k) keep k (l.getD k 0)
theorem rcr1_n (S : RSt) (keep : List Bool) (k : Nat) (x : Int) : (rcr1 S keep k x).n = S.n := by unfold rcr1; split <;> rfl
theorem rcrashN_n (l : List Int) (keep : List Bool) (k : Nat) : (rcrashN R l keep k).n = R.n := by
  induction k with
  | zero => rfl
  | succ k ih => exact (rcr1_n _ _ _ _).trans ih
def rcrashS (R : RSt) (keep : List Bool) : RSt :=
  { n := R.n, lasts := (rcrashN R (rdirtyN R R.n) keep (rdirtyN R R.n).length).lasts, seen := (rcrashN R (rdirtyN R R.n) keep (rdirtyN R R.n).length).lasts, dirty := List.replicate R.n false, flushed := List.replicate R.n false, armed := 0, down := false }
theorem rdirtyN_at {k : Nat} (hk : k < (rdirtyN R R.n).length) : ∃ x : Nat, (rdirtyN R R.n).getD k 0 = x ∧ x < R.n := by
  have h1 : (rdirtyN R R.n).getD k 0 ∈ rdirtyN R R.n := by
    simp only [List.getD, List.getElem?_eq_getElem hk, Option.getD_some]
    exact List.getElem_mem hk
  unfold rdirtyN at h1 ⊢
  obtain ⟨x, hx, e⟩ := List.mem_map.1 h1
  refine ⟨x, e.symm, ?_⟩
  have := (List.mem_filter.1 hx).1
  simpa using this
/-- Seen anew: other bytes in new memory. -/
theorem RDevAt.reseenTo {lb lc sb sc db fb : Nat} (h : RDevAt w G q R lb lc sb sc db fb) {b c : Nat} {zs : List Int} (hb : ¬ G b) (hbw : b < w.heap.size) (ho : Own .u8 5 0 w (some ⟨b, 0, none⟩) (64 * R.n) c zs) (hz : Bytes zs) :
    RDevAt (w.setCell ⟨q, 1, none⟩ (.slice (some ⟨b, 0, none⟩) (64 * R.n) c)) (fun k => G k ∨ k = b) q { R with seen := zs } lb lc b c db fb ∧ w.grownBy (w.setCell ⟨q, 1, none⟩ (.slice (some ⟨b, 0, none⟩) (64 * R.n) c)) (some q) := by
  obtain ⟨e1, e2, e3⟩ := setCell_obj h.obj 1 (.slice (some ⟨b, 0, none⟩) (64 * R.n) c)
  have hbk : ∀ k, k < w.heap.size → k ≠ q → (w.setCell ⟨q, 1, none⟩ (.slice (some ⟨b, 0, none⟩) (64 * R.n) c)).heap[k]? = w.heap[k]? := fun k hk hn => e2.block k hk (by simpa using hn)
  have hbq : b ≠ q := fun e => hb (e ▸ h.gq)
  exact ⟨⟨⟨h.ok.l0, ho.len, h.ok.l2, h.ok.l3, h.ok.n0, h.ok.n1, h.ok.a0, h.ok.a1, h.ok.b0, hz⟩, e1, Or.inl h.gq, Or.inl h.gl, Or.inr rfl, Or.inl h.gd, Or.inl h.gf, own_same h.lasts (hbk lb (h.bound lb h.gl) h.ne_l), own_same ho (hbk b hbw hbq), (hbk db (h.bound db h.gd) h.ne_d).trans h.dirty, (hbk fb (h.bound fb h.gf) h.ne_f).trans h.flushed, fun e => hb (e ▸ h.gl), h.df, fun k hk => by
    rw [e3]
    rcases hk with hk | hk
    · exact h.bound k hk
    · rw [hk]; exact hbw⟩, e2⟩
theorem RDevAt.redirty {lb lc sb sc db fb : Nat} (h : RDevAt w G q R lb lc sb sc db fb) {b : Nat} {bs : List Bool} (hb : ¬ G b) (hbw : w.heap[b]? = some (boolObj bs)) (hl : bs.length = R.n) :
    RDevAt (w.setCell ⟨q, 2, none⟩ (.slice (some ⟨b, 0, none⟩) R.n R.n)) (fun k => G k ∨ k = b) q { R with dirty := bs } lb lc sb sc b fb ∧ w.grownBy (w.setCell ⟨q, 2, none⟩ (.slice (some ⟨b, 0, none⟩) R.n R.n)) (some q) := by
  obtain ⟨e1, e2, e3⟩ := setCell_obj h.obj 2 (.slice (some ⟨b, 0, none⟩) R.n R.n)
  have hbw' : b < w.heap.size := (Array.getElem?_eq_some_iff.1 hbw).1
  have hbk : ∀ k, k < w.heap.size → k ≠ q → (w.setCell ⟨q, 2, none⟩ (.slice (some ⟨b, 0, none⟩) R.n R.n)).heap[k]? = w.heap[k]? := fun k hk hn => e2.block k hk (by simpa using hn)
  have hbq : b ≠ q := fun e => hb (e ▸ h.gq)
  exact ⟨⟨⟨h.ok.l0, h.ok.l1, hl, h.ok.l3, h.ok.n0, h.ok.n1, h.ok.a0, h.ok.a1, h.ok.b0, h.ok.b1⟩, e1, Or.inl h.gq, Or.inl h.gl, Or.inl h.gs, Or.inr rfl, Or.inl h.gf, own_same h.lasts (hbk lb (h.bound lb h.gl) h.ne_l), own_same h.seen (hbk sb (h.bound sb h.gs) h.ne_s), (hbk b hbw' hbq).trans hbw, (hbk fb (h.bound fb h.gf) h.ne_f).trans h.flushed, h.ls, fun e => hb (e ▸ h.gf), fun k hk => by
    rw [e3]
    rcases hk with hk | hk
    · exact h.bound k hk
    · rw [hk]; exact hbw'⟩, e2⟩
theorem RDevAt.reflush {lb lc sb sc db fb : Nat} (h : RDevAt w G q R lb lc sb sc db fb) {b : Nat} {bs : List Bool} (hb : ¬ G b) (hbw : w.heap[b]? = some (boolObj bs)) (hl : bs.length = R.n) :
    RDevAt (w.setCell ⟨q, 3, none⟩ (.slice (some ⟨b, 0, none⟩) R.n R.n)) (fun k => G k ∨ k = b) q { R with flushed := bs } lb lc sb sc db b ∧ w.grownBy (w.setCell ⟨q, 3, none⟩ (.slice (some ⟨b, 0, none⟩) R.n R.n)) (some q) := by
  obtain ⟨e1, e2, e3⟩ := setCell_obj h.obj 3 (.slice (some ⟨b, 0, none⟩) R.n R.n)
  have hbw' : b < w.heap.size := (Array.getElem?_eq_some_iff.1 hbw).1
  have hbk : ∀ k, k < w.heap.size → k ≠ q → (w.setCell ⟨q, 3, none⟩ (.slice (some ⟨b, 0, none⟩) R.n R.n)).heap[k]? = w.heap[k]? := fun k hk hn => e2.block k hk (by simpa using hn)
  have hbq : b ≠ q := fun e => hb (e ▸ h.gq)
  exact ⟨⟨⟨h.ok.l0, h.ok.l1, h.ok.l2, hl, h.ok.n0, h.ok.n1, h.ok.a0, h.ok.a1, h.ok.b0, h.ok.b1⟩, e1, Or.inl h.gq, Or.inl h.gl, Or.inl h.gs, Or.inl h.gd, Or.inr rfl, own_same h.lasts (hbk lb (h.bound lb h.gl) h.ne_l), own_same h.seen (hbk sb (h.bound sb h.gs) h.ne_s), (hbk db (h.bound db h.gd) h.ne_d).trans h.dirty, (hbk b hbw' hbq).trans hbw, h.ls, fun e => hb (e ▸ h.gd), fun k hk => by
    rw [e3]
    rcases hk with hk | hk
    · exact h.bound k hk
    · rw [hk]; exact hbw'⟩, e2⟩
theorem Tryz.infoB : (Tryz.prog.info? 4).map (fun i => (i.zero, i.size, i.bytes)) = some (some (.bool false), 1, 1) := by kernel_rfl
theorem made_bools {w' : World} {b n : Nat} (h : w'.heap[b]? = some (.cells (List.replicate n (Value.bool false)).toArray 4 (0, 0))) : w'.heap[b]? = some (boolObj (List.replicate n false)) := by
  rw [h, boolObj, List.map_replicate]
theorem RDevAt.goesTo {w' : World} {G' : Nat → Prop} (hq : G q) (hg : w.grownBy w' (some q)) (hn : ∀ j, G' j → G j ∨ w.heap.size ≤ j) : Goes G w G' w' := ⟨Off.of_grown hg (fun j hj => by cases hj; exact Or.inl hq), hn⟩
theorem rcrash_lasts_bytes (hd : RDev w G q R) : Bytes R.lasts := hd.ok.b0

/-- Behind the new bytes. -/
def CrA (wr w : World) (G G' : Nat → Prop) (q : Nat) (R : RSt) : Prop := RDev w G' q R ∧ Goes G wr G' w
theorem goes_mk {wr w2 w3 : World} {G' : Nat → Prop} (hb : Below wr.heap.size wr w2) (hg : w2.grownBy w3 (some q)) (hq : G q) (hn : ∀ j, G' j → G j ∨ wr.heap.size ≤ j) : Goes G wr G' w3 :=
  ⟨(Off.of_below (F := G) hb).trans (F' := G) (Off.of_grown hg (fun j hj => by cases hj; exact Or.inl hq)) (fun _ h => Or.inl h), hn⟩
theorem rcr_seen {wr w2 : World} {T : RSt} {N L c2 lb lc sb sc db fb : Nat} {bo : Option Addr} (h : RDevAt wr G q T lb lc sb sc db fb) (hN : T.n = N) (hL : 64 * N = L) (hL0 : 0 < L)
    (hown : Own .u8 5 wr.heap.size w2 bo (0 + L) c2 ([] ++ T.lasts)) (hgr : (wr.alloc (.cells #[] 5)).grownBy w2 (Value.slice (some ⟨wr.heap.size, 0, none⟩) 0 0).ownBlock) (hb0 : Below wr.heap.size wr (wr.alloc (.cells #[] 5)))
    (hmade : (wr.alloc (.cells #[] 5)).ownsRow wr.heap.size 5 1 (.slice (some ⟨wr.heap.size, 0, none⟩) 0 0) 0 (([] : List Int).map (Value.int .u8))) :
    ∃ b v x, ∃ G3 : Nat → Prop, bo = some ⟨b, 0, none⟩ ∧ w2.cell? ⟨q, 1, none⟩ = some v ∧ w2.frozen? ⟨q, 1, none⟩ = false ∧ (w2.setCell ⟨q, 1, none⟩ (.slice (some ⟨b, 0, none⟩) L c2)).cell? ⟨q, 2, none⟩ = some (.slice x N N) ∧ CrA wr (w2.setCell ⟨q, 1, none⟩ (.slice (some ⟨b, 0, none⟩) L c2)) G G3 q { T with seen := T.lasts } := by
  subst hN hL
  rw [Nat.zero_add, List.nil_append] at hown
  have hb2 : Below wr.heap.size wr w2 := hb0.grown hgr hb0.size (fun b hb' => (hmade.lt b hb').1)
  have h2 : RDevAt w2 G q T lb lc sb sc db fb := h.same hb2.size (fun k hk => hb2.block k (h.bound k hk))
  obtain ⟨b, c', hsh⟩ := own_shape hown.row hL0
  simp only [Value.slice.injEq] at hsh
  obtain ⟨rfl, _, rfl⟩ := hsh
  have hbase := hown.base
  have hnG : ¬ G b := fun hb => by have := h.bound b hb; omega
  obtain ⟨c0, c1, _, _, _, _⟩ := rdev_cells h2.obj
  obtain ⟨d3, g3⟩ := h2.reseenTo hnG hbase.2 (hown.mono (Nat.zero_le _)) h.ok.b0
  obtain ⟨_, _, e2, _, _, _⟩ := rdev_cells d3.obj
  exact ⟨b, _, _, _, rfl, c1, rdev_frozen h2.obj 1, e2, ⟨_, _, _, _, _, _, d3⟩, goes_mk hb2 g3 h2.gq (fun j hj => by
    rcases hj with hj | hj
    · exact Or.inl hj
    · exact Or.inr (by omega))⟩
theorem rcr_dirty {wr w3 w4 : World} {G3 : Nat → Prop} {T : RSt} {b N : Nat} (h : CrA wr w3 G G3 q T) (hN : T.n = N) (hm : w4.heap[w3.heap.size]? = some (.cells (List.replicate N (Value.bool false)).toArray 4 (0, 0))) (hb : Below w3.heap.size w3 w4) (hs : w3.heap.size = b) :
    ∃ v, ∃ G5 : Nat → Prop, w4.cell? ⟨q, 2, none⟩ = some v ∧ w4.frozen? ⟨q, 2, none⟩ = false ∧ (w4.setCell ⟨q, 2, none⟩ (.slice (some ⟨b, 0, none⟩) N N)).cell? ⟨q, 2, none⟩ = some (.slice (some ⟨b, 0, none⟩) N N) ∧ CrA wr (w4.setCell ⟨q, 2, none⟩ (.slice (some ⟨b, 0, none⟩) N N)) G G5 q { T with dirty := List.replicate N false } := by
  subst hN hs
  obtain ⟨⟨lb, lc, sb, sc, db, fb, h⟩, hg⟩ := h
  have h4 : RDevAt w4 G3 q T lb lc sb sc db fb := h.same hb.size (fun k hk => hb.block k (h.bound k hk))
  have hnG : ¬ G3 w3.heap.size := fun hb => by have := h.bound _ hb; omega
  obtain ⟨_, _, c2, _, _, _⟩ := rdev_cells h4.obj
  obtain ⟨d5, g5⟩ := h4.redirty hnG (made_bools hm) (by simp)
  obtain ⟨_, _, e2, _, _, _⟩ := rdev_cells d5.obj
  exact ⟨_, _, c2, rdev_frozen h4.obj 2, e2, ⟨_, _, _, _, _, _, d5⟩, hg.trans (goes_mk hb g5 h4.gq (fun j hj => by
    rcases hj with hj | hj
    · exact Or.inl hj
    · exact Or.inr (by omega)))⟩
theorem rcr_flush {wr w3 w4 : World} {G3 : Nat → Prop} {T : RSt} {b N : Nat} (h : CrA wr w3 G G3 q T) (hN : T.n = N) (hm : w4.heap[w3.heap.size]? = some (.cells (List.replicate N (Value.bool false)).toArray 4 (0, 0))) (hb : Below w3.heap.size w3 w4) (hs : w3.heap.size = b) :
    ∃ v v5 v4, ∃ G7 : Nat → Prop, w4.cell? ⟨q, 3, none⟩ = some v ∧ w4.frozen? ⟨q, 3, none⟩ = false ∧ (w4.setCell ⟨q, 3, none⟩ (.slice (some ⟨b, 0, none⟩) N N)).cell? ⟨q, 5, none⟩ = some v5 ∧ (w4.setCell ⟨q, 3, none⟩ (.slice (some ⟨b, 0, none⟩) N N)).frozen? ⟨q, 5, none⟩ = false ∧
      ((w4.setCell ⟨q, 3, none⟩ (.slice (some ⟨b, 0, none⟩) N N)).setCell ⟨q, 5, none⟩ (.bool false)).cell? ⟨q, 4, none⟩ = some v4 ∧ ((w4.setCell ⟨q, 3, none⟩ (.slice (some ⟨b, 0, none⟩) N N)).setCell ⟨q, 5, none⟩ (.bool false)).frozen? ⟨q, 4, none⟩ = false ∧
      Hid (CrA wr (((w4.setCell ⟨q, 3, none⟩ (.slice (some ⟨b, 0, none⟩) N N)).setCell ⟨q, 5, none⟩ (.bool false)).setCell ⟨q, 4, none⟩ (.int .i64 0)) G G7 q { T with flushed := List.replicate N false, down := false, armed := 0 }) := by
  subst hN hs
  obtain ⟨⟨lb, lc, sb, sc, db, fb, h⟩, hg⟩ := h
  have h4 : RDevAt w4 G3 q T lb lc sb sc db fb := h.same hb.size (fun k hk => hb.block k (h.bound k hk))
  have hnG : ¬ G3 w3.heap.size := fun hb => by have := h.bound _ hb; omega
  obtain ⟨_, _, _, c3, _, _⟩ := rdev_cells h4.obj
  obtain ⟨d5, g5⟩ := h4.reflush hnG (made_bools hm) (by simp)
  obtain ⟨_, _, _, _, _, e5⟩ := rdev_cells d5.obj
  have hf5 := rdev_frozen d5.obj 5
  obtain ⟨d6, g6⟩ := d5.downTo false
  obtain ⟨_, _, _, _, e4, _⟩ := rdev_cells d6.obj
  have hf4 := rdev_frozen d6.obj 4
  obtain ⟨d7, g7⟩ := d6.armedTo 0 (Int.le_refl _) (by omega)
  exact ⟨_, _, _, _, c3, rdev_frozen h4.obj 3, e5, hf5, e4, hf4, hid ⟨⟨_, _, _, _, _, _, d7⟩, (hg.trans (goes_mk hb g5 h4.gq (fun j hj => by
    rcases hj with hj | hj
    · exact Or.inl hj
    · exact Or.inr (by omega)))).trans ((d5.goes d5.gq g6).trans (d6.goes d6.gq g7))⟩⟩

set_option maxRecDepth 100000 in
set_option maxHeartbeats 2000000 in
theorem rcrash_any (hd : RDev w G q R) (ao : Option Addr) (m cap : Nat) (bs : List Bool) (hk : Slb w ao m bs) (hm9 : m ≤ 9223372036854775807) (hno : 0 < m → ∀ c, ao = some c → ¬ G c.block) :
    Calls Tryz.prog 15 #[.pointer (some ⟨q, 0, none⟩), .slice ao m cap] w fun e w' => e = .returned (.tuple #[]) ∧ ∃ G', RDev w' G' q (rcrashS R bs) ∧ Goes G w G' w' := by
  have hn1 := hd.ok.n1
  have hn0 := hd.ok.n0
  have hbd := hd.bound
  have cD := rdirty_any hd
  have hln := rdirtyN_len (R := R) R.n
  have hat := fun k hk => rdirtyN_at (R := R) (k := k) hk
  have HC : Hid (rcrashS R bs = { n := R.n, lasts := (rcrashN R (rdirtyN R R.n) bs (rdirtyN R R.n).length).lasts, seen := (rcrashN R (rdirtyN R R.n) bs (rdirtyN R R.n).length).lasts, dirty := List.replicate R.n false, flushed := List.replicate R.n false, armed := 0, down := false }) := hid rfl
  generalize rdirtyN R R.n = l at *
  obtain ⟨nl, hnl⟩ : ∃ nl, l.length = nl := ⟨_, rfl⟩
  rw [hnl] at cD hln HC
  obtain ⟨i0, hi, hz0, hz1, hz2⟩ := info_parts Tryz.infoB
  go_enter Tryz.func15, Tryz.ntmps15
  go_wp2_with (go_at_call 41; with_reducible refine cD.mono ?_; rintro e w1 ⟨lo, lc, rfl, hlo, hb1⟩)
  have hd1 := hd.below hb1
  go_loopw [5] (fun t wr => ∃ k : Nat, k ≤ nl ∧ t = .int .i64 k ∧ RDev wr G q (rcrashN R l bs k) ∧ Own .i64 3 w.heap.size wr lo nl lc l ∧ Goes G w G wr) (fun t _ => nl - (intOf t).toNat)
  case atStart => exact ⟨0, Nat.zero_le _, rfl, hd1, hlo, Goes.of_below hb1⟩
  case round =>
    clear hd1 hlo hb1 hd cD
    obtain ⟨k, hkn, rfl, hdk, hlk, hg⟩ := hrel
    have hTn : (rcrashN R l bs k).n = R.n := rcrashN_n l bs k
    have HT : Hid (rcrashN R l bs (k + 1) = rcr1 (rcrashN R l bs k) bs k (l.getD k 0)) := hid rfl
    by_cases hlt : k < nl
    · generalize rcrashN R l bs k = T at *
      obtain ⟨x, hx, hxn⟩ := hat k (by omega)
      obtain ⟨lb, lc', hsh⟩ := own_shape hlk.row (by omega)
      simp only [Value.slice.injEq] at hsh
      obtain ⟨rfl, _, rfl⟩ := hsh
      have hcell := hlk.at k hlt hx
      have hlbase := hlk.base
      have hki : (k : Int) < nl := by omega
      have hkr := hk.off hg.off hno
      rw [hx] at HT
      have HL := hid hlk
      have H0 := hid hdk
      by_cases hkp : bs.getD k false = true
      · have hkm : k < m := by
          have := hkr.len
          by_cases h : k < m
          · exact h
          · simp [List.getD, List.getElem?_eq_none (show bs.length ≤ k by omega)] at hkp
        obtain ⟨kb, ko, rfl, _, hkc⟩ := hkr.here (by omega)
        have hkc1 := hkc k hkm
        rw [hkp] at hkc1
        have hkmi : (k : Int) < m := by omega
        have e1 : rcr1 T bs k x = rlast T x := by unfold rcr1; rw [if_pos hkp, Int.toNat_natCast]
        rw [e1] at HT
        have cL := rlasting_any hdk x (by omega)
        have HN : Hid (∀ c, (some (⟨lb, 0, none⟩ : Addr)) = some c → ¬ G c.block) := hid (fun c hc hf => by cases hc; have h1 := hbd _ hf; simp only at h1; omega)
        clear hkc hkr hk hkp hlk hdk e1
        go_wp2_with (first
          | (go_at_call 42; with_reducible refine cL.mono ?_; rintro e w3 ⟨rfl, d3, g3⟩; have o3 := HL.out.off g3.off HN.out; have g13 := hg.trans g3))
        go_roundw
        case rel => exact ⟨k + 1, by omega, by go_num, by rw [HT.out]; exact d3, o3, g13⟩
        case measure => simp [intOf]; omega
      · have hkp' : bs.getD k false = false := by simpa using hkp
        have e1 : rcr1 T bs k x = T := by unfold rcr1; rw [hkp']; rfl
        rw [e1] at HT
        by_cases hkm : k < m
        · obtain ⟨kb, ko, rfl, _, hkc⟩ := hkr.here (by omega)
          have hkc1 := hkc k hkm
          rw [hkp'] at hkc1
          have hkmi : (k : Int) < m := by omega
          clear hkc hkr hk hkp hkp' hlk hdk e1
          go_wp2
          go_roundw
          case rel => exact ⟨k + 1, by omega, by go_num, by rw [HT.out]; exact H0.out, HL.out, hg⟩
          case measure => simp [intOf]; omega
        · have hkmi : ¬ ((k : Int) < m) := by omega
          clear hkr hk hkp hkp' hlk hdk e1
          go_wp2
          go_roundw
          case rel => exact ⟨k + 1, by omega, by go_num, by rw [HT.out]; exact H0.out, HL.out, hg⟩
          case measure => simp [intOf]; omega
    · obtain rfl : k = nl := by omega
      clear hlk hk HT
      generalize rcrashN R l bs k = T at *
      have hokT := hdk.ok
      obtain ⟨lb, lc', sb, sc, db, fb, hdk⟩ := hdk
      have hbT := hdk.bound
      have hb0 : Below wr.heap.size wr (wr.alloc (.cells #[] 5)) := (Below.refl _ _).alloc (Nat.le_refl _) _
      obtain ⟨c0, _, _, _, _, _⟩ := rdev_cells hdk.obj
      have c0' := (hb0.cell (p := ⟨q, 0, none⟩) (hdk.bound q hdk.gq)).trans c0
      have hs := hdk.lasts.sl.below hb0
      have hmade : (wr.alloc (.cells #[] 5)).ownsRow wr.heap.size 5 1 (.slice (some ⟨wr.heap.size, 0, none⟩) 0 0) 0 (([] : List Int).map (Value.int .u8)) := World.ownsRow_made wr #[] 0 (Nat.le_refl _) (Nat.zero_le _) rfl
      have hs0 := hb0.size
      rw [hTn] at c0 c0' hs
      obtain ⟨L, hL⟩ : ∃ L, 64 * R.n = L := ⟨_, rfl⟩
      rw [hL] at c0' hs
      have nL : 0 + L ≤ 140737488355328 := by omega
      have hL0 : 0 < L := by omega
      have b2 : i0.bytes * R.n ≤ 281474976710656 := by rw [hz2]; omega
      have b3 : R.n ≤ maxLen := by unfold maxLen; omega
      have HL := hid hL
      have HD := hid hdk
      clear hL c0 hdk
      have tA : True := trivial
      go_wp2_with (first
        | (at_builtin; refine append_sl rfl (.tmp 31) (.tmp 35) rfl wr.heap.size _ 0 [] rfl hmade _ L _ T.lasts rfl hs nL hs0 ?_; intro bo c2 w2 hown hgr _; rw [Nat.zero_add]; rcases rcr_seen HD.out hTn HL.out hL0 hown hgr hb0 hmade with ⟨b, kv, kx, G3, rfl, k1, k2, k3, D3⟩)
        | (at_make; have _t := tA; refine wpList_make_some _ rfl _ _ 35 rfl 4 i0 (.bool false) Tryz.underlying35 hi hz0 hz1 rfl .i64 .i64 _ _ R.n R.n rfl rfl rfl rfl (Nat.le_refl _) b2 b3 ?_; intro w4 HG4 hb4; clear tA; rcases rcr_dirty (b := w2.heap.size) D3 hTn HG4.out hb4 (by simp [World.setCell]) with ⟨kv4, G5, k4, k5, k6, D5⟩)
        | (at_make; refine wpList_make_some _ rfl _ _ 35 rfl 4 i0 (.bool false) Tryz.underlying35 hi hz0 hz1 rfl .i64 .i64 _ _ R.n R.n rfl rfl rfl rfl (Nat.le_refl _) b2 b3 ?_; intro w6 HG6 hb6; rcases rcr_flush (b := w4.heap.size) D5 hTn HG6.out hb6 (by simp [World.setCell]) with ⟨kv7, kv8, kv9, G7, k7, k8, k9, k10, k11, k12, D7⟩))
      go_end0
      refine ⟨rfl, G7, ?_, hg.trans D7.out.2⟩
      have h7 := D7.out.1
      rw [HC.out]
      rw [hTn] at h7
      exact h7
end
end Go.Proofs.YtgiippbjieecmaaGreat
