/- joistref03's Store, Flush, lasting, Dirty, Fence, Load by their contracts. -/
import Derived.Test.YtcelmnhdchfhiaaRDevA
namespace Go.Proofs.Ytcelmnhdchfhiaa
open Go.RowKit
set_option linter.unusedVariables false

section
variable {w : World} {G : Nat → Prop} {q : Nat} {R : RSt}
theorem rask_zero {a n : Int} (h : raskE R a n = 0) : R.down = false ∧ 0 ≤ a ∧ 0 ≤ n ∧ n ≤ ((64 * R.n : Nat) : Int) - a := by
  unfold raskE at h
  cases hd : R.down with
  | true => rw [hd] at h; simp at h
  | false =>
    rw [hd] at h
    rw [if_neg (by simp)] at h
    by_cases h1 : a < 0 ∨ n < 0 ∨ n > ((64 * R.n : Nat) : Int) - a
    · rw [if_pos h1] at h; cases h
    · exact ⟨rfl, by omega, by omega, by omega⟩
theorem rstepS_same : (rstepS R).n = R.n ∧ (rstepS R).lasts = R.lasts ∧ (rstepS R).seen = R.seen ∧ (rstepS R).dirty = R.dirty ∧ (rstepS R).flushed = R.flushed := by
  unfold rstepS
  split <;> exact ⟨rfl, rfl, rfl, rfl, rfl⟩
/-- A byte more is stored. -/
def rput (R : RSt) (i : Nat) (z : Int) : RSt := { R with seen := R.seen.set i z, dirty := R.dirty.set (i / 64) true, flushed := R.flushed.set (i / 64) false }
def rputs (R : RSt) (i : Nat) (ys : List Int) : Nat → RSt
  | 0 => R
  | k + 1 => rput (rputs R i ys k) (i + k) (ys.getD k 0)
theorem rputs_n (i : Nat) (ys : List Int) (k : Nat) : (rputs R i ys k).n = R.n := by
  induction k with
  | zero => rfl
  | succ k ih => exact ih
theorem set_bytes {zs : List Int} (h : Bytes zs) (i : Nat) {z : Int} (hz : 0 ≤ z ∧ z ≤ 255) : Bytes (zs.set i z) := fun y hy => by
  rcases List.mem_or_eq_of_mem_set hy with h1 | h1
  · exact h y h1
  · rw [h1]; exact hz

set_option maxRecDepth 100000 in
set_option maxHeartbeats 1000000 in
theorem rstore_any (hd : RDev w G q R) (a : Int) (ao : Option Addr) (m cap : Nat) (ys : List Int) (ha : Rg a) (hsl : Sl .u8 w ao m cap ys) (hby : Bytes ys) (hm9 : m ≤ 9223372036854775807) (hno : 0 < m → ∀ c, ao = some c → ¬ G c.block) :
    Calls Try.prog 17 #[.pointer (some ⟨q, 0, none⟩), .int .i64 a, .slice ao m cap] w fun e w' => Goes G w G w' ∧
      (raskE R a m ≠ 0 → e = .returned (.int .i64 (raskE R a m)) ∧ RDev w' G q R) ∧
      (raskE R a m = 0 → rstepB R = true → e = .returned (.int .i64 5) ∧ RDev w' G q (rstepS R)) ∧
      (raskE R a m = 0 → rstepB R = false → e = .returned (.int .i64 0) ∧ RDev w' G q (rputs (rstepS R) a.toNat ys m)) := by
  have cA := rasks_any hd a m ha ⟨by omega, by omega⟩
  by_cases hE : raskE R a m = 0
  · obtain ⟨k1, k2, k3, k4⟩ := rask_zero hE
    rw [hE] at cA
    obtain ⟨i, rfl⟩ : ∃ i : Nat, a = i := ⟨a.toNat, by omega⟩
    rw [Int.toNat_natCast]
    have cS := rstep_any hd k1
    have hn1 := hd.ok.n1
    cases hB : rstepB R with
    | true =>
      rw [hB] at cS
      clear hd
      go_enter Try.func17, Try.ntmps17
      go_wp2_with (first
        | (go_at_call 35; with_reducible refine cA.mono ?_; rintro e w1 ⟨rfl, rfl⟩)
        | (go_at_call 39; with_reducible refine cS.mono ?_; rintro e w2 ⟨rfl, d2, g2⟩))
      go_ret
      exact ⟨g2, (fun h => absurd hE h), (fun _ _ => ⟨rfl, d2⟩), (fun _ h => by cases h)⟩
    | false =>
      rw [hB] at cS
      have hSn : (rstepS R).n = R.n := rstepS_same.1
      clear hd
      go_enter Try.func17, Try.ntmps17
      go_wp2_with (first
        | (go_at_call 35; with_reducible refine cA.mono ?_; rintro e w1 ⟨rfl, rfl⟩)
        | (go_at_call 39; with_reducible refine cS.mono ?_; rintro e w2 ⟨rfl, d2, g2⟩))
      go_loopw [8] (fun t wr => ∃ k : Nat, k ≤ m ∧ t = .int .i64 k ∧ RDev wr G q (rputs (rstepS R) i ys k) ∧ Goes G w G wr) (fun t _ => m - (intOf t).toNat)
      case atStart => exact ⟨0, Nat.zero_le _, rfl, d2, g2⟩
      case round =>
        clear d2 g2
        obtain ⟨k, hk, rfl, hdk, hg⟩ := hrel
        by_cases hlt : k < m
        · obtain ⟨lb, lc, sb, sc, db, fb, hdk⟩ := hdk
          have hTn : (rputs (rstepS R) i ys k).n = R.n := (rputs_n i ys k).trans hSn
          have HT : Hid (rputs (rstepS R) i ys (k + 1) = rput (rputs (rstepS R) i ys k) (i + k) (ys.getD k 0)) := hid rfl
          generalize rputs (rstepS R) i ys k = T at *
          have hokT := hdk.ok
          obtain ⟨b, off, rfl, hlt2, _⟩ := hsl.here (by omega)
          have hslr := hsl.off hg.off hno
          obtain ⟨b', off', eb, _, hc⟩ := hslr.here (by omega)
          simp only [Option.some.injEq, Addr.mk.injEq, and_true] at eb
          obtain ⟨rfl, rfl⟩ := eb
          obtain ⟨y, hy⟩ : ∃ y, ys.getD k 0 = y := ⟨_, rfl⟩
          have hcy := hc k hlt
          rw [hy] at hcy HT
          have hyb : 0 ≤ y ∧ y ≤ 255 := by rw [← hy]; exact hby.at k
          obtain ⟨cs0, cs1, cs2, cs3, cs4, cs5⟩ := rdev_cells hdk.obj
          obtain ⟨P, hP⟩ : ∃ P, i + k = P := ⟨_, rfl⟩
          obtain ⟨Q, hQ⟩ : ∃ Q, P / 64 = Q := ⟨_, rfl⟩
          rw [hP] at HT
          have eP : (i : Int) + k = (P : Int) := by omega
          have eQ : (P : Int) / 64 = (Q : Int) := by omega
          have hPL : P < 64 * T.n := by omega
          have hline : Q < T.n := by omega
          have hdd : RDevAt wr.drew G q T lb lc sb sc db fb := hdk.same (Nat.le_refl _) (fun _ _ => rfl)
          have o1 := hdd.seen.set P y
          have g1 : wr.drew.grownBy (wr.drew.setCell ⟨sb, P, none⟩ (.int .u8 y)) (some sb) := (hdd.seen.row.stored P (.int .u8 y)).2
          have d1 := hdd.seeing g1 o1 (set_bytes hokT.b1 _ hyb)
          have hgo1 : Goes G wr G (wr.drew.setCell ⟨sb, P, none⟩ (.int .u8 y)) := (Goes.drewN (Goes.refl G wr) 1).trans (hdd.goes hdd.gs g1)
          obtain ⟨cur, hcur, hcs, _⟩ := hdk.seen.block
          have hcap := hdk.seen.cap_le
          have hf1 := frozen_of_row _ sb P cur 5 hcur
          have hc1 : ∃ v, wr.cell? ⟨sb, P, none⟩ = some v := by
            rw [cell_of_row _ sb P cur 5 (0, 0) hcur]
            have hsz : P < cur.size := by omega
            exact ⟨cur[P], Array.getElem?_eq_getElem hsz⟩
          obtain ⟨v, hc1⟩ := hc1
          have D5 : RDevAt (wr.setCell ⟨sb, P, none⟩ (.int .u8 y)).drew G q { T with seen := T.seen.set P y } lb lc sb sc db fb := d1
          obtain ⟨u0, u1, u2, u3, u4, u5⟩ := rdev_cells D5.obj
          obtain ⟨x1, x2⟩ := bool_cell D5.dirty (i := Q) (by rw [D5.ok.l2]; exact hline)
          obtain ⟨d2, g2⟩ := D5.dirtied Q true
          have D6 : RDevAt ((wr.setCell ⟨sb, P, none⟩ (.int .u8 y)).setCell ⟨db, Q, none⟩ (.bool true)).drew G q { T with seen := T.seen.set P y, dirty := T.dirty.set Q true } lb lc sb sc db fb := d2
          obtain ⟨v0, v1, v2, v3, v4, v5⟩ := rdev_cells D6.obj
          obtain ⟨x3, x4⟩ := bool_cell D6.flushed (i := Q) (by rw [D6.ok.l3]; exact hline)
          obtain ⟨d3, g3⟩ := D6.flushedTo Q false
          have hgo2 := (hgo1.trans (D5.goes D5.gd g2)).trans (D6.goes D6.gf g3)
          have H7 : Hid (RDev (((wr.setCell ⟨sb, P, none⟩ (.int .u8 y)).setCell ⟨db, Q, none⟩ (.bool true)).setCell ⟨fb, Q, none⟩ (.bool false)).drew G q (rputs (rstepS R) i ys (k + 1))) := hid (by
            rw [HT.out, rput, hQ]
            exact ⟨_, _, _, _, _, _, d3⟩)
          have HG7 : Hid (Goes G w G (((wr.setCell ⟨sb, P, none⟩ (.int .u8 y)).setCell ⟨db, Q, none⟩ (.bool true)).setCell ⟨fb, Q, none⟩ (.bool false)).drew) := hid (hg.trans hgo2)
          obtain ⟨L, hL⟩ : ∃ L, 64 * T.n = L := ⟨_, rfl⟩
          simp only at u0 u1 u2 u3 v0 v1 v2 v3
          rw [hL] at cs0 cs1 hPL u0 u1 v0 v1
          have hL9 : L ≤ 262144 := by have := hokT.n1; omega
          have hn9 : T.n ≤ 4096 := hokT.n1
          simp only at x1 x2 x3 x4
          generalize T.dirty.getD Q false = zz1 at *
          generalize T.flushed.getD Q false = zz2 at *
          generalize T.n = TN at *
          clear hdd o1 g1 d1 hgo1 hcur hdk hslr hc hP hQ D5 d2 g2 D6 d3 g3 hgo2 hL hokT
          go_wp2
          go_region
          all_goals
            go_wp2
            go_roundw
            case rel => exact ⟨k + 1, by omega, by go_num, H7.out, HG7.out⟩
            case measure => simp [intOf]; omega
        · obtain rfl : k = m := by omega
          go_wp2
          go_ret
          exact ⟨hg, (fun h => absurd hE h), (fun _ h => by cases h), (fun _ _ => ⟨rfl, hdk⟩)⟩
  · have hne : (raskE R a m != 0) = true := by simpa using hE
    generalize raskE R a m = E at *
    have H := hid hd
    clear hd
    go_enter Try.func17, Try.ntmps17
    go_wp2_with (go_at_call 35; with_reducible refine cA.mono ?_; rintro e w1 ⟨rfl, rfl⟩)
    go_ret
    exact ⟨Goes.refl _ _, (fun _ => ⟨rfl, H.out⟩), (fun h => absurd h hE), (fun h => absurd h hE)⟩
end
end Go.Proofs.Ytcelmnhdchfhiaa
