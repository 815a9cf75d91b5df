/- joistref03's Flush, lasting, Fence by their contracts. -/
import Derived.Test.YtcelmnhdchfhiaaRStore
import Derived.Test.YtcelmnhdchfhiaaSpliceStep
namespace Go.Proofs.Ytcelmnhdchfhiaa
open Go.RowKit
set_option linter.unusedVariables false

section
variable {w : World} {G : Nat → Prop} {q : Nat} {R : RSt}
def rfl1 (S : RSt) (Q : Nat) : RSt := { S with flushed := S.flushed.set Q (S.dirty.getD Q false) }
def rflushN (R : RSt) (i : Nat) : Nat → RSt
  | 0 => R
  | k + 1 => rfl1 (rflushN R i k) ((i + k) / 64)
theorem rflushN_n (i k : Nat) : (rflushN R i k).n = R.n := by
  induction k with
  | zero => rfl
  | succ k ih => exact ih

set_option maxRecDepth 100000 in
set_option maxHeartbeats 1000000 in
theorem rflush_any (hd : RDev w G q R) (a m : Int) (ha : Rg a) (hm : Rg m) :
    Calls Try.prog 19 #[.pointer (some ⟨q, 0, none⟩), .int .i64 a, .int .i64 m] w fun e w' => Goes G w G w' ∧
      (raskE R a m ≠ 0 → e = .returned (.int .i64 (raskE R a m)) ∧ RDev w' G q R) ∧
      (raskE R a m = 0 → rstepB R = true → e = .returned (.int .i64 5) ∧ RDev w' G q (rstepS R)) ∧
      (raskE R a m = 0 → rstepB R = false → e = .returned (.int .i64 0) ∧ RDev w' G q (rflushN (rstepS R) a.toNat m.toNat)) := by
  have cA := rasks_any hd a m ha hm
  by_cases hE : raskE R a m = 0
  · obtain ⟨k1, k2, k3, k4⟩ := rask_zero hE
    rw [hE] at cA
    obtain ⟨i, rfl⟩ : ∃ i : Nat, a = i := ⟨a.toNat, by omega⟩
    obtain ⟨n, rfl⟩ : ∃ n : Nat, m = n := ⟨m.toNat, by omega⟩
    rw [Int.toNat_natCast, Int.toNat_natCast]
    have cS := rstep_any hd k1
    have hn1 := hd.ok.n1
    cases hB : rstepB R with
    | true =>
      rw [hB] at cS
      clear hd
      go_enter Try.func19, Try.ntmps19
      go_wp2_with (first
        | (go_at_call 35; with_reducible refine cA.mono ?_; rintro e w1 ⟨rfl, rfl⟩)
        | (go_at_call 39; with_reducible refine cS.mono ?_; rintro e w2 ⟨rfl, d2, g2⟩))
      go_ret
      exact ⟨g2, (fun h => absurd hE h), (fun _ _ => ⟨rfl, d2⟩), (fun _ h => by cases h)⟩
    | false =>
      rw [hB] at cS
      have hSn : (rstepS R).n = R.n := rstepS_same.1
      clear hd
      go_enter Try.func19, Try.ntmps19
      go_wp2_with (first
        | (go_at_call 35; with_reducible refine cA.mono ?_; rintro e w1 ⟨rfl, rfl⟩)
        | (go_at_call 39; with_reducible refine cS.mono ?_; rintro e w2 ⟨rfl, d2, g2⟩))
      go_loopw [8] (fun t wr => ∃ k : Nat, k ≤ n ∧ t = .int .i64 k ∧ RDev wr G q (rflushN (rstepS R) i k) ∧ Goes G w G wr) (fun t _ => n - (intOf t).toNat)
      case atStart => exact ⟨0, Nat.zero_le _, rfl, d2, g2⟩
      case round =>
        clear d2 g2
        obtain ⟨k, hk, rfl, hdk, hg⟩ := hrel
        by_cases hlt : k < n
        · obtain ⟨lb, lc, sb, sc, db, fb, hdk⟩ := hdk
          have hTn : (rflushN (rstepS R) i k).n = R.n := (rflushN_n i k).trans hSn
          have HT : Hid (rflushN (rstepS R) i (k + 1) = rfl1 (rflushN (rstepS R) i k) ((i + k) / 64)) := hid rfl
          generalize rflushN (rstepS R) i k = T at *
          have hokT := hdk.ok
          obtain ⟨cs0, cs1, cs2, cs3, cs4, cs5⟩ := rdev_cells hdk.obj
          obtain ⟨P, hP⟩ : ∃ P, i + k = P := ⟨_, rfl⟩
          obtain ⟨Q, hQ⟩ : ∃ Q, P / 64 = Q := ⟨_, rfl⟩
          rw [hP, hQ] at HT
          have eP : (i : Int) + k = (P : Int) := by omega
          have eQ : (P : Int) / 64 = (Q : Int) := by omega
          have hline : Q < T.n := by omega
          have hdd : RDevAt wr.drew G q T lb lc sb sc db fb := hdk.same (Nat.le_refl _) (fun _ _ => rfl)
          obtain ⟨x1, x2⟩ := bool_cell hdk.dirty (i := Q) (by rw [hdk.ok.l2]; exact hline)
          obtain ⟨x3, x4⟩ := bool_cell hdk.flushed (i := Q) (by rw [hdk.ok.l3]; exact hline)
          obtain ⟨d3, g3⟩ := hdd.flushedTo Q (T.dirty.getD Q false)
          have hgo : Goes G wr G _ := (Goes.drewN (Goes.refl G wr) 1).trans (hdd.goes hdd.gf g3)
          have H7 : Hid (RDev (wr.setCell ⟨fb, Q, none⟩ (.bool (T.dirty.getD Q false))).drew G q (rflushN (rstepS R) i (k + 1))) := hid (by
            rw [HT.out]
            exact ⟨_, _, _, _, _, _, d3⟩)
          have HG7 : Hid (Goes G w G (wr.setCell ⟨fb, Q, none⟩ (.bool (T.dirty.getD Q false))).drew) := hid (hg.trans hgo)
          have hn9 : T.n ≤ 4096 := hokT.n1
          have hfd := hdk.df
          generalize T.dirty.getD Q false = zz1 at *
          generalize T.flushed.getD Q false = zz2 at *
          generalize T.n = TN at *
          have hkn : (k : Int) < n := by omega
          clear hdd hdk d3 g3 hgo hokT hP hQ
          go_wp2
          go_region
          all_goals
            go_wp2
            go_roundw
            case rel => exact ⟨k + 1, by omega, by go_num, H7.out, HG7.out⟩
            case measure => simp [intOf]; omega
        · obtain rfl : k = n := by omega
          go_wp2
          go_ret
          exact ⟨hg, (fun h => absurd hE h), (fun _ h => by cases h), (fun _ _ => ⟨rfl, hdk⟩)⟩
  · have hne : (raskE R a m != 0) = true := by simpa using hE
    generalize raskE R a m = E at *
    have H := hid hd
    clear hd
    go_enter Try.func19, Try.ntmps19
    go_wp2_with (go_at_call 35; with_reducible refine cA.mono ?_; rintro e w1 ⟨rfl, rfl⟩)
    go_ret
    exact ⟨Goes.refl _ _, (fun _ => ⟨rfl, H.out⟩), (fun h => absurd h hE), (fun h => absurd h hE)⟩

/-- What is seen of line k lasts. -/
def rlast (R : RSt) (k : Nat) : RSt := { R with lasts := splice R.lasts (64 * k) (lineAt R.seen k) }
def rlastT (R : RSt) (k t : Nat) : RSt := { R with lasts := splice R.lasts (64 * k) ((lineAt R.seen k).take t) }
set_option maxRecDepth 100000 in
set_option maxHeartbeats 1000000 in
theorem rlasting_any (hd : RDev w G q R) (k : Nat) (hk : k < R.n) :
    Calls Try.prog 40 #[.pointer (some ⟨q, 0, none⟩), .int .i64 k] w fun e w' => e = .returned (.tuple #[]) ∧ RDev w' G q (rlast R k) ∧ Goes G w G w' := by
  have hok := hd.ok
  have hn9 := hok.n1
  have h0 : rlastT R k 0 = R := by unfold rlastT; rw [splice_zero]
  have hl64 : (lineAt R.seen k).length = 64 := by unfold lineAt; simp; have := hok.l1; omega
  have h64 : rlastT R k 64 = rlast R k := by unfold rlastT rlast; rw [List.take_of_length_le (by omega)]
  obtain ⟨A, hA⟩ : ∃ A, 64 * k = A := ⟨_, rfl⟩
  have eA : (64 : Int) * k = (A : Int) := by omega
  have eB : (64 : Int) * ((k : Int) + 1) = (A : Int) + 64 := by omega
  have hd0 : RDev w G q (rlastT R k 0) := by rw [h0]; exact hd
  clear hd
  go_enter Try.func40, Try.ntmps40
  go_wp2
  go_loopw [4] (fun t wr => ∃ j : Nat, j ≤ 64 ∧ t = .int .i64 (A + j : Nat) ∧ RDev wr G q (rlastT R k j) ∧ Goes G w G wr) (fun t _ => A + 64 - (intOf t).toNat)
  case atStart => exact ⟨0, Nat.zero_le _, rfl, hd0, Goes.refl _ _⟩
  case round =>
    clear hd0
    obtain ⟨j, hj, rfl, hdk, hg⟩ := hrel
    by_cases hlt : j < 64
    · obtain ⟨lb, lc, sb, sc, db, fb, hdk⟩ := hdk
      obtain ⟨P, hP⟩ : ∃ P, A + j = P := ⟨_, rfl⟩
      have hPi : (P : Int) < (A : Int) + 64 := by omega
      have hPn : P < 64 * R.n := by omega
      obtain ⟨cs0, cs1, cs2, cs3, cs4, cs5⟩ := rdev_cells hdk.obj
      have hdd : RDevAt wr.drew G q (rlastT R k j) lb lc sb sc db fb := hdk.same (Nat.le_refl _) (fun _ _ => rfl)
      obtain ⟨y, hy⟩ : ∃ y, R.seen.getD P 0 = y := ⟨_, rfl⟩
      have hcy : wr.cell? ⟨sb, P, none⟩ = some (.int .u8 y) := hdk.seen.at P hPn hy
      have hyb : 0 ≤ y ∧ y ≤ 255 := by rw [← hy]; exact hok.b1.at P
      have hyl : (lineAt R.seen k).getD j 0 = y := by
        rw [← hy, lineAt]
        simp [List.getD, hlt]
        rw [← hP, ← hA]
      have o1 := hdd.lasts.set P y
      have g1 : wr.drew.grownBy (wr.drew.setCell ⟨lb, P, none⟩ (.int .u8 y)) (some lb) := (hdd.lasts.row.stored P (.int .u8 y)).2
      have d1 := hdd.lastingTo g1 o1 (set_bytes hdd.ok.b0 _ hyb)
      have e1 : ({ rlastT R k j with lasts := (rlastT R k j).lasts.set P y } : RSt) = rlastT R k (j + 1) := by
        unfold rlastT
        simp only
        rw [← hP, ← hA, ← hyl, splice_step (by omega) (by rw [hl64, hok.l0]; omega)]
      rw [e1] at d1
      have hgo : Goes G wr G _ := (Goes.drewN (Goes.refl G wr) 1).trans (hdd.goes hdd.gl g1)
      have H7 : Hid (RDev (wr.setCell ⟨lb, P, none⟩ (.int .u8 y)).drew G q (rlastT R k (j + 1))) := hid ⟨_, _, _, _, _, _, d1⟩
      have HG7 : Hid (Goes G w G (wr.setCell ⟨lb, P, none⟩ (.int .u8 y)).drew) := hid (hg.trans hgo)
      obtain ⟨cur, hcur, hcs, _⟩ := hdk.lasts.block
      have hcap := hdk.lasts.cap_le
      have hf1 := frozen_of_row _ lb P cur 5 hcur
      have hc1 : ∃ v, wr.cell? ⟨lb, P, none⟩ = some v := by
        rw [cell_of_row _ lb P cur 5 (0, 0) hcur]
        have hsz : P < cur.size := by have : (rlastT R k j).n = R.n := rfl; omega
        exact ⟨cur[P], Array.getElem?_eq_getElem hsz⟩
      obtain ⟨v, hc1⟩ := hc1
      have HP : Hid (A + (j + 1) = P + 1) := hid (by omega)
      have hTn : (rlastT R k j).n = R.n := rfl
      rw [hTn] at cs0 cs1 cs2 cs3
      obtain ⟨L, hL⟩ : ∃ L, 64 * R.n = L := ⟨_, rfl⟩
      rw [hL] at cs0 cs1 hPn
      have hL9 : L ≤ 262144 := by omega
      have hls := hdk.ls
      rw [hP]
      clear hdd o1 g1 d1 hgo hcur hdk hP hyl hy hL e1
      go_wp2
      go_region
      all_goals
        go_wp2
        go_roundw
        case rel => exact ⟨j + 1, by omega, by rw [HP.out]; go_num, H7.out, HG7.out⟩
        case measure => simp [intOf]; omega
    · obtain rfl : j = 64 := by omega
      have hnl : ¬ (((A + 64 : Nat) : Int) < (A : Int) + 64) := by omega
      rw [h64] at hdk
      go_wp2
      go_end0
      exact ⟨rfl, hdk, hg⟩
end
end Go.Proofs.Ytcelmnhdchfhiaa
