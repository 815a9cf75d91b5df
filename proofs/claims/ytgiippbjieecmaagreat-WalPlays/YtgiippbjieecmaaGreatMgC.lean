/- ReadP · ReadM · RefReadM: these texts, one behind another. -/
import Derived.Test.YtgiippbjieecmaaGreatMgH
import Derived.Test.YtgiippbjieecmaaGreatMgN
import Derived.Test.YtgiippbjieecmaaGreatZero
/- wal.changesOf, isWritten, Read by their contracts. -/
namespace Go.Proofs.YtgiippbjieecmaaGreat
set_option maxRecDepth 100000
open Go.RowKit
set_option linter.unusedVariables false

/-- A part of a slice that can be read, at its place. -/
theorem Sl.partAt {k : IntKind} {w : World} {b off n cap : Nat} {zs : List Int} (h : Sl k w (some ⟨b, off, none⟩) n cap zs) (i m : Nat) (hi : i + m ≤ n) : Sl k w (some ⟨b, off + i, none⟩) m (cap - i) ((zs.drop i).take m) := by
  have hl := h.len
  have hr := h.room
  refine ⟨by simp; omega, by omega, (by intro e; cases e), fun _ => ?_⟩
  obtain ⟨b', off', e, hlt, hc⟩ := h.here (by omega)
  cases e
  refine ⟨b, off + i, rfl, hlt, fun t ht => ?_⟩
  rw [Nat.add_assoc, hc (i + t) (by omega)]
  simp [List.getD, ht]
theorem recAt_length {b : List Int} {i c : Nat} (h : b.length = 128 * c) (hi : i < c) : (recAt b i).length = 128 := by unfold recAt; simp; omega
theorem recAt_bytes {b : List Int} (h : Bytes b) (i : Nat) : Bytes (recAt b i) := (h.drop _).take _
theorem getN_range {zs : List Int} (hb : Bytes zs) (hg : getB zs 0 = true) : 0 ≤ getN zs 0 ∧ getN zs 0 ≤ 4611686018427387903 := by
  unfold getB at hg
  rw [Bool.and_eq_true] at hg
  unfold getN
  rw [if_pos hg.1]
  unfold wB at hg
  have h2 : le (cut zs (0 : Int).toNat) ≤ 4611686018427387903 := of_decide_eq_true hg.2
  unfold wN
  rw [if_pos h2]
  exact ⟨(le_bound (cut_bytes hb _)).1, h2⟩
def chgsW (rs : List Int) (c : Nat) : List Chg := if chgsB rs c = true then chgsN rs c else []
theorem chgsW_t {rs : List Int} {c : Nat} (h : chgsB rs c = true) : chgsW rs c = chgsN rs c := by unfold chgsW; rw [if_pos h]
theorem chgsW_f {rs : List Int} {c : Nat} (h : chgsB rs c = false) : chgsW rs c = [] := by unfold chgsW; rw [h]; rfl
set_option maxHeartbeats 1600000 in
theorem changesOf_any (b off n c cap : Nat) (rs : List Int) (w : World) (hsl : Sl .u8 w (some ⟨b, off, none⟩) n cap rs) (hby : Bytes rs) (hn : n = 128 * c) (hc : c ≤ 4096) (hcap : cap ≤ 9223372036854775807) :
    Calls Tryz.prog 58 #[.slice (some ⟨b, off, none⟩) n cap] w fun e w' => ∃ lo k lc D, e = .returned (.tuple #[.slice lo k lc, .bool (chgsB rs c)]) ∧ OwnC w.heap.size w' lo k lc D ∧ saysN D k = chgsW rs c ∧ Below w.heap.size w w' := by
  have hlen := hsl.len
  have hroom := hsl.room
  have hq : (n : Int) / 128 = c := by omega
  have HN := hid hn
  have HS := hid hsl
  have HL : Hid (rs.length = 128 * c) := by rw [hlen, hn]; exact rfl
  have hncap : 128 * c ≤ cap := by omega
  clear hn hsl hlen
  go_enter Tryz.func58, Tryz.ntmps58
  go_wp2
  go_loopw [4, 12] (fun q t wr => ∃ (i : Nat) (lo : Option Addr) (lc : Nat) (D : Nat → ChD), i ≤ c ∧ t = .int .i64 i ∧ q = .slice lo i lc ∧ OwnC w.heap.size wr lo i lc D ∧ Hid (saysN D i = chgsN rs i ∧ chgsB rs i = true) ∧ Below w.heap.size w wr) (fun _ t _ => c - (RowKit.intOf t).toNat)
  case atStart => exact ⟨0, none, 0, fun _ => default, Nat.zero_le _, rfl, rfl, ownC_nil _ _ _, ⟨rfl, rfl⟩, Below.refl _ _⟩
  case round =>
    obtain ⟨i, lo, lc, D, hi, rfl, rfl, hown, HD, hbl⟩ := hrel
    by_cases hlt : i < c
    · have hii : (i : Int) < (c : Int) := by omega
      have sR := (HS.out.below hbl).partAt (128 * i) 128 (by rw [HN.out]; omega)
      have sB := (HS.out.below hbl).partAt (128 * i + 64) 64 (by rw [HN.out]; omega)
      have eR : (rs.drop (128 * i)).take 128 = recAt rs i := rfl
      have eB : (rs.drop (128 * i + 64)).take 64 = (recAt rs i).drop 64 := by unfold recAt; rw [List.drop_take, List.drop_drop]
      rw [eR] at sR
      rw [eB] at sB
      have hbR := recAt_bytes hby i
      have hbB : Bytes ((recAt rs i).drop 64) := hbR.drop 64
      have HG : Hid (chgsB rs (i + 1) = (chgsB rs i && getB (recAt rs i) 0)) := chgsB_succ rs i
      have HF : Hid (getB (recAt rs i) 0 = false → chgsB rs c = false) := fun e => chgsB_false hlt e
      have HC : Hid (chgsN rs (i + 1) = chgsN rs i ++ [(getN (recAt rs i) 0, (recAt rs i).drop 64)]) := chgsN_succ rs i
      have hrg : getB (recAt rs i) 0 = true → 0 ≤ getN (recAt rs i) 0 ∧ getN (recAt rs i) 0 ≤ 4611686018427387903 := fun e => getN_range hbR e
      have cG := get_any _ 128 (cap - 128 * i) (recAt rs i) 0 wr sR hbR (by omega)
      have cC := clone_any _ 64 (cap - (128 * i + 64)) _ wr sB (by omega) (by omega)
      have hb32 : (i + 1) * 32 ≤ 140737488355328 := by omega
      have hBr := hbl.size
      have n1 : ¬ (cap = 128 * i) := by omega
      have n2 : ¬ (cap = i * 128) := by omega
      have n3 : ¬ (cap - 128 * i = 64) := by omega
      have n4 : ¬ (cap - i * 128 = 64) := by omega
      have hcm : 128 * i = i * 128 := by omega
      rw [hcm] at cG cC
      have hbo : i * 128 + 128 ≤ cap := by omega
      have hnn : i * 128 + 128 ≤ n := by rw [HN.out]; omega
      generalize (recAt rs i).drop 64 = Y at *
      generalize getN (recAt rs i) 0 = X at *
      cases hg : getB (recAt rs i) 0 with
      | false =>
        rw [hg] at cG
        clear sR sB hbR hbB hcm cC hown
        go_wp2_with (go_at_call 57; with_reducible refine cG.mono ?_; rintro e w' ⟨rfl, rfl⟩)
        go_ret2
        exact ⟨none, 0, 0, fun _ => default, (by rw [HF.out hg]; rfl), ownC_nil _ _ _, by rw [chgsW_f (HF.out hg)]; rfl, hbl⟩
      | true =>
        rw [hg] at cG hrg
        obtain ⟨r0, r1⟩ := hrg rfl
        have hrX : Rg X := ⟨by omega, by omega⟩
        clear sR sB hbR hcm hrg
        go_wp2_with (first
          | (go_at_call 57; with_reducible refine cG.mono ?_; rintro e w' ⟨rfl, rfl⟩)
          | (go_at_call 25; refine cC.mono ?_; rintro e w1 ⟨gc, cc, rfl, hcp, hb1⟩;
             have hbA : Below w1.heap.size w1 (w1.alloc (.cells #[.int .i64 X, .slice (some ⟨gc, 0, none⟩) 64 cc] 49)) := (Below.refl _ _).alloc (Nat.le_refl _) _;
             have hownA := (hown.below hb1).below hbA;
             have hcpA := (hcp.below hbA).mono hBr;
             have hblA := next (next hbl hb1) hbA;
             have hszA := hblA.size)
          | (at_builtin; refine append_chg rfl (.tmp 27) (.tmp 33) rfl w.heap.size lo i lc D rfl hownA ⟨w1.heap.size, 0, none⟩ 1 ⟨X, some ⟨gc, 0, none⟩, 64, cc, Y⟩ rfl (by simp) (by simp [Addr.add_lit]) ⟨hcpA, hrX, hbB⟩ hb32 hszA ?_; intro bo' c' w' hown' hgrow; have hb' := hblA.grown hgrow hszA (fun b hb' => (hownA.row.lt b hb').1)))
        go_roundw
        case rel => exact ⟨i + 1, bo', c', _, by omega, by go_num, rfl, hown', ⟨by rw [put1_says, HD.out.1, HC.out]; rfl, by rw [HG.out, HD.out.2, hg]; rfl⟩, hb'⟩
        case measure => simp [RowKit.intOf]; omega
    · obtain rfl : i = c := by omega
      go_wp2
      go_ret2
      exact ⟨lo, i, lc, D, (by rw [HD.out.2]; rfl), hown, by rw [chgsW_t HD.out.2]; exact HD.out.1, hbl⟩

theorem wroteB_t {g : Lg} {l : List Chg} {b m : List Int} (h : writeE g l = 0 ∧ recsL l = b ∧ markL (recsL l) = m) : wroteB g l b m = true := decide_eq_true h
theorem wroteB_f {g : Lg} {l : List Chg} {b m : List Int} (h : ¬ (writeE g l = 0 ∧ recsL l = b ∧ markL (recsL l) = m)) : wroteB g l b m = false := decide_eq_false h
theorem isWritten_any (M F R : Int) (lo : Option Addr) (m lc : Nat) (D : Nat → ChD) (ro : Option Addr) (rn rc : Nat) (rz : List Int) (mo : Option Addr) (mn mc : Nat) (mz : List Int) (w : World) (hg : (Lg.mk M F R).Ok) (h : Chs w lo m D) (sr : Sl .u8 w ro rn rc rz) (sm : Sl .u8 w mo mn mc mz) (br : Bytes rz) (bm : Bytes mz) (hbl : ∀ c ∈ saysN D m, Bytes c.2) :
    Calls Tryz.prog 59 #[.agg #[.int .i64 M, .int .i64 F, .int .i64 R], .slice lo m lc, .slice ro rn rc, .slice mo mn mc] w fun e w' => e = .returned (.bool (wroteB ⟨M, F, R⟩ (saysN D m) rz mz)) ∧ Below w.heap.size w w' := by
  have hb := (Below.refl w.heap.size w).alloc (Nat.le_refl _) (.cells #[.int .i64 M, .int .i64 F, .int .i64 R] 24)
  have cW := write_any M F R lo m lc D _ hg (h.below hb)
  have hA : Bytes (writeA ⟨M, F, R⟩ (saysN D m)) := by
    unfold writeA
    split
    · exact recsL_bytes hbl
    · intro z hz; cases hz
  have hM : Bytes (writeM ⟨M, F, R⟩ (saysN D m)) := by
    unfold writeM
    split
    · exact markL_bytes _
    · intro z hz; cases hz
  have go : ∀ b : Bool, wroteB ⟨M, F, R⟩ (saysN D m) rz mz = b → Ending.returned (Value.bool b) = .returned (.bool (wroteB ⟨M, F, R⟩ (saysN D m) rz mz)) := fun b h => by rw [h]
  by_cases hE : writeE ⟨M, F, R⟩ (saysN D m) = 0
  · have eA : writeA ⟨M, F, R⟩ (saysN D m) = recsL (saysN D m) := by unfold writeA; rw [if_pos hE]
    have eM : writeM ⟨M, F, R⟩ (saysN D m) = markL (recsL (saysN D m)) := by unfold writeM; rw [if_pos hE]
    rw [eA] at hA cW
    rw [eM] at hM cW
    have HE := hid hE
    rw [hE] at cW
    have GO := hid go
    have HR : Hid (eqB rz (recsL (saysN D m)) = false → wroteB ⟨M, F, R⟩ (saysN D m) rz mz = false) := fun e => wroteB_f (fun h => (of_decide_eq_false e) h.2.1.symm)
    have HMm : Hid (eqB mz (markL (recsL (saysN D m))) = false → wroteB ⟨M, F, R⟩ (saysN D m) rz mz = false) := fun e => wroteB_f (fun h => (of_decide_eq_false e) h.2.2.symm)
    have HT : Hid (eqB rz (recsL (saysN D m)) = true → eqB mz (markL (recsL (saysN D m))) = true → wroteB ⟨M, F, R⟩ (saysN D m) rz mz = true) := fun e1 e2 => wroteB_t ⟨HE.out, (of_decide_eq_true e1).symm, (of_decide_eq_true e2).symm⟩
    clear hE go eA eM
    generalize recsL (saysN D m) = Z at *
    generalize markL Z = Y at *
    cases h1 : eqB rz Z with
    | false =>
      go_enter Tryz.func59, Tryz.ntmps59
      go_wp2_with (first
        | (go_at_call 28; with_reducible refine cW.mono ?_; rintro e w1 ⟨ao, na, ca, bo, nb, cb, rfl, oa, om, hne, hb1⟩; have sr1 := sr.below (next hb hb1); have sm1 := sm.below (next hb hb1))
        | (go_at_call 81; with_reducible refine (equal_any _ _ _ rz _ _ _ Z _ sr1 oa.sl br hA).mono ?_; rintro e w' ⟨rfl, rfl⟩; rw [h1]))
      go_ret
      exact ⟨GO.out _ (HR.out h1), next hb hb1⟩
    | true =>
      cases h2 : eqB mz Y with
      | false =>
        go_enter Tryz.func59, Tryz.ntmps59
        go_wp2_with (first
          | (go_at_call 28; with_reducible refine cW.mono ?_; rintro e w1 ⟨ao, na, ca, bo, nb, cb, rfl, oa, om, hne, hb1⟩; have sr1 := sr.below (next hb hb1); have sm1 := sm.below (next hb hb1))
          | (go_at_call 81; with_reducible refine (equal_any _ _ _ rz _ _ _ Z _ sr1 oa.sl br hA).mono ?_; rintro e w' ⟨rfl, rfl⟩; rw [h1]; clear sr1)
          | (go_at_call 81; with_reducible refine (equal_any _ _ _ mz _ _ _ Y _ sm1 om.sl bm hM).mono ?_; rintro e w' ⟨rfl, rfl⟩; rw [h2]))
        go_ret
        exact ⟨GO.out _ (HMm.out h2), next hb hb1⟩
      | true =>
        go_enter Tryz.func59, Tryz.ntmps59
        go_wp2_with (first
          | (go_at_call 28; with_reducible refine cW.mono ?_; rintro e w1 ⟨ao, na, ca, bo, nb, cb, rfl, oa, om, hne, hb1⟩; have sr1 := sr.below (next hb hb1); have sm1 := sm.below (next hb hb1))
          | (go_at_call 81; with_reducible refine (equal_any _ _ _ rz _ _ _ Z _ sr1 oa.sl br hA).mono ?_; rintro e w' ⟨rfl, rfl⟩; rw [h1]; clear sr1)
          | (go_at_call 81; with_reducible refine (equal_any _ _ _ mz _ _ _ Y _ sm1 om.sl bm hM).mono ?_; rintro e w' ⟨rfl, rfl⟩; rw [h2]))
        go_ret
        exact ⟨GO.out _ (HT.out h1 h2), next hb hb1⟩
  · have hW := wroteB_f (g := ⟨M, F, R⟩) (l := saysN D m) (b := rz) (m := mz) (fun h => hE h.1)
    generalize writeE ⟨M, F, R⟩ (saysN D m) = E at *
    generalize writeA ⟨M, F, R⟩ (saysN D m) = Z at *
    generalize writeM ⟨M, F, R⟩ (saysN D m) = Y at *
    have hE' : (E == 0) = false := by simpa using hE
    rw [hW]
    go_enter Tryz.func59, Tryz.ntmps59
    go_wp2_with (go_at_call 28; with_reducible refine cW.mono ?_; rintro e w1 ⟨ao, na, ca, bo, nb, cb, rfl, oa, om, hne, hb1⟩)
    go_ret
    exact ⟨rfl, next hb hb1⟩

/-- What is read of an image. -/
def imgOk (g : Lg) (z : List Int) : Bool := decide (z.length % 64 = 0 ∧ z.length / 64 ≤ 4096) && rightG g ((z.length / 64 : Nat) : Int)
def mkAt (g : Lg) (z : List Int) : List Int := (z.drop (g.mark.toNat * 64)).take 64
def cntAt (g : Lg) (z : List Int) : Nat := (getN (mkAt g z) 0).toNat
def rsAt (g : Lg) (z : List Int) : List Int := (z.drop (g.first.toNat * 64)).take (cntAt g z * 128)
def hasM (g : Lg) (z : List Int) : Bool := getB (mkAt g z) 0 && decide (getN (mkAt g z) 0 ≤ g.room)
def readOk (g : Lg) (z : List Int) : Bool := chgsB (rsAt g z) (cntAt g z) && (rightL ((z.length / 64 : Nat) : Int) (chgsN (rsAt g z) (cntAt g z)) && wroteB g (chgsN (rsAt g z) (cntAt g z)) (rsAt g z) (mkAt g z))
def readE (g : Lg) (z : List Int) : Int := if imgOk g z = true then (if allZ (mkAt g z) = true then 0 else if hasM g z = true then (if readOk g z = true then 0 else 7) else 7) else 1
def readL (g : Lg) (z : List Int) : List Chg := if imgOk g z = true ∧ allZ (mkAt g z) = false ∧ hasM g z = true ∧ readOk g z = true then chgsN (rsAt g z) (cntAt g z) else []
theorem read_arg {g : Lg} {z : List Int} (h : imgOk g z = false) : readE g z = 1 ∧ readL g z = [] := by
  unfold readE readL; rw [h]; exact ⟨rfl, if_neg (by simp)⟩
theorem read_none {g : Lg} {z : List Int} (h : imgOk g z = true) (h2 : allZ (mkAt g z) = true) : readE g z = 0 ∧ readL g z = [] := by
  unfold readE readL; rw [if_pos h, if_pos h2, h2]; exact ⟨rfl, if_neg (by simp)⟩
theorem read_bad {g : Lg} {z : List Int} (h : imgOk g z = true) (h2 : allZ (mkAt g z) = false) (h3 : hasM g z = false ∨ readOk g z = false) : readE g z = 7 ∧ readL g z = [] := by
  unfold readE readL
  rw [if_pos h, if_neg (by rw [h2]; simp)]
  rcases h3 with h3 | h3
  · rw [if_neg (by rw [h3]; simp), h3]; exact ⟨rfl, if_neg (by simp)⟩
  · rw [h3]
    refine ⟨?_, if_neg (by simp)⟩
    split
    · rfl
    · rfl
theorem read_good {g : Lg} {z : List Int} (h : imgOk g z = true) (h2 : allZ (mkAt g z) = false) (h3 : hasM g z = true) (h4 : readOk g z = true) : readE g z = 0 ∧ readL g z = chgsN (rsAt g z) (cntAt g z) := by
  unfold readE readL
  rw [if_pos h, if_neg (by rw [h2]; simp), if_pos h3, if_pos h4, if_pos ⟨h, h2, h3, h4⟩]
  exact ⟨rfl, rfl⟩

theorem read_refused (M F R : Int) (ao : Option Addr) (n cap : Nat) (z : List Int) (w : World) (hg : (Lg.mk M F R).Ok) (hs : Sl .u8 w ao n cap z) (hn : n ≤ 9223372036854775807) (h : imgOk ⟨M, F, R⟩ z = false) :
    Calls Tryz.prog 38 #[.agg #[.int .i64 M, .int .i64 F, .int .i64 R], .slice ao n cap] w fun e w' => e = .returned (.tuple #[.slice none 0 0, .int .i64 1]) ∧ Below w.heap.size w w' := by
  have hlen := hs.len
  have hb := (Below.refl w.heap.size w).alloc (Nat.le_refl _) (.cells #[.int .i64 M, .int .i64 F, .int .i64 R] 24)
  unfold imgOk at h
  rw [hlen] at h
  by_cases h1 : n % 64 = 0
  · have e1 : ((n : Int) % 64 != 0) = false := by simp; omega
    have eq : (n : Int) / 64 = ((n / 64 : Nat) : Int) := by omega
    by_cases h2 : n / 64 ≤ 4096
    · have h3 : rightG ⟨M, F, R⟩ ((n / 64 : Nat) : Int) = false := by simpa [h1, h2] using h
      have hR : Rg ((n / 64 : Nat) : Int) := by unfold Rg; omega
      have cR := wright_any M F R ((n / 64 : Nat) : Int) (w.alloc (.cells #[.int .i64 M, .int .i64 F, .int .i64 R] 24)) hg hR
      rw [h3] at cR
      have h2' : ¬ ((4096 : Int) < ((n / 64 : Nat) : Int)) := by omega
      generalize n / 64 = N at *
      clear h1 h hlen hs
      go_enter Tryz.func38, Tryz.ntmps38
      go_wp2_with (go_at_call 23; with_reducible refine cR.mono ?_; rintro e w1 ⟨rfl, hb1⟩)
      go_ret2
      exact ⟨rfl, next hb hb1⟩
    · have h2' : (4096 : Int) < ((n / 64 : Nat) : Int) := by omega
      generalize n / 64 = N at *
      clear h1 h hlen hs
      go_enter Tryz.func38, Tryz.ntmps38
      go_wp2
      go_ret2
      exact ⟨rfl, hb⟩
  · have e1 : ((n : Int) % 64 != 0) = true := by simp; omega
    clear h1 h hlen hs
    go_enter Tryz.func38, Tryz.ntmps38
    go_wp2
    go_ret2
    exact ⟨rfl, hb⟩

theorem ownC_bytes {B : Nat} {w : World} {ao : Option Addr} {n cap : Nat} {D : Nat → ChD} (h : OwnC B w ao n cap D) : ∀ c ∈ saysN D n, Bytes c.2 := fun c hc => by
  unfold saysN at hc
  rw [List.mem_map] at hc
  obtain ⟨i, hi, rfl⟩ := hc
  exact (h.own i (by simpa using hi)).2.2
theorem OwnC.mono {B B' : Nat} {w : World} {ao : Option Addr} {n cap : Nat} {D : Nat → ChD} (h : OwnC B w ao n cap D) (hB : B' ≤ B) : OwnC B' w ao n cap D := by
  refine ⟨⟨h.row.1, ?_⟩, fun i hi => ⟨(h.own i hi).1.mono hB, (h.own i hi).2⟩⟩
  rcases h.row.2 with hn | ⟨g, cap', cur, hv, hg, r⟩
  · exact Or.inl hn
  · exact Or.inr ⟨g, cap', cur, hv, Nat.le_trans hB hg, r⟩
set_option maxHeartbeats 6400000 in
theorem read_taken (M F R : Int) (ao : Option Addr) (n cap : Nat) (z : List Int) (w : World) (hg : (Lg.mk M F R).Ok) (hs : Sl .u8 w ao n cap z) (hby : Bytes z) (hcap : cap ≤ 9223372036854775807) (h : imgOk ⟨M, F, R⟩ z = true) :
    Calls Tryz.prog 38 #[.agg #[.int .i64 M, .int .i64 F, .int .i64 R], .slice ao n cap] w fun e w' => ∃ lo k lc D, e = .returned (.tuple #[.slice lo k lc, .int .i64 (readE ⟨M, F, R⟩ z)]) ∧ OwnC w.heap.size w' lo k lc D ∧ saysN D k = readL ⟨M, F, R⟩ z ∧ Below w.heap.size w w' := by
  have hlen := hs.len
  have hroom := hs.room
  have hb := (Below.refl w.heap.size w).alloc (Nat.le_refl _) (.cells #[.int .i64 M, .int .i64 F, .int .i64 R] 24)
  have hL := logAt_new w M F R
  have h' := h
  unfold imgOk at h'
  rw [hlen, Bool.and_eq_true, decide_eq_true_eq] at h'
  obtain ⟨⟨h1, h2⟩, h3⟩ := h'
  have e1 : ((n : Int) % 64 != 0) = false := by simp; omega
  have eq : (n : Int) / 64 = ((n / 64 : Nat) : Int) := by omega
  have hR : Rg ((n / 64 : Nat) : Int) := by unfold Rg; omega
  have cR := wright_any M F R ((n / 64 : Nat) : Int) (w.alloc (.cells #[.int .i64 M, .int .i64 F, .int .i64 R] 24)) hg hR
  rw [h3] at cR
  have h2' : ¬ ((4096 : Int) < ((n / 64 : Nat) : Int)) := by omega
  have hG := rightG_iff.1 h3
  have g1 := hG.m0
  have g2 := hG.m1
  have g3 := hG.f0
  have g4 := hG.f1
  have g5 := hG.r0
  have g6 := hG.r1
  simp only at g1 g2 g3 g4 g5 g6
  have HI := hid h
  have HLn : Hid (z.length / 64 = n / 64) := by rw [hlen]; exact rfl
  obtain ⟨mk, rfl⟩ : ∃ mk : Nat, M = mk := ⟨M.toNat, by omega⟩
  obtain ⟨fi, rfl⟩ : ∃ fi : Nat, F = fi := ⟨F.toNat, by omega⟩
  have a1 : mk * 64 + 64 ≤ n := by omega
  have a2 : ∀ c : Nat, (c : Int) ≤ R → fi * 64 + c * 128 ≤ n := fun c hc => by omega
  have a3 : fi * 64 + 128 ≤ n := by omega
  have n1 : ¬ (cap = mk * 64) := by omega
  have n2 : ¬ (cap = fi * 64) := by omega
  obtain ⟨b, off, rfl, hlt, _⟩ := hs.here (by omega)
  have sM := (hs.below hb).partAt (mk * 64) 64 a1
  have eM : (z.drop (mk * 64)).take 64 = mkAt ⟨mk, fi, R⟩ z := rfl
  rw [eM] at sM
  have bM : Bytes (mkAt ⟨mk, fi, R⟩ z) := (hby.drop _).take _
  have HS := hid hs
  have HA := hid a2
  generalize hN : n / 64 = N at *
  have HN := hid hN
  clear hG h h1 h2 h3 hs hlen hN a2
  have n64 : 64 ≤ 140737488355328 := by omega
  cases hz : allZ (mkAt ⟨mk, fi, R⟩ z) with
  | true =>
    have HR := hid (read_none HI.out hz)
    go_enter Tryz.func38, Tryz.ntmps38
    go_wp2_with (first
      | (go_at_call 23; with_reducible refine cR.mono ?_; rintro e w1 ⟨rfl, hb1⟩; have sM1 := sM.below hb1; have hL1 := hL.below hb1; obtain ⟨c0, c1, c2⟩ := And.intro hL1.c0 (And.intro hL1.c1 hL1.c2); have cZ := zero_any _ 64 (cap - mk * 64) _ w1 sM1 n64; rw [hz] at cZ; have cG := get_any _ 64 (cap - mk * 64) _ 0 w1 sM1 bM n64)
      | (go_at_call 56; with_reducible refine cZ.mono ?_; rintro e w' ⟨rfl, rfl⟩))
    go_ret2
    exact ⟨none, 0, 0, fun _ => default, (by rw [HR.out.1]; rfl), ownC_nil _ _ _, (by rw [HR.out.2]; rfl), next hb hb1⟩
  | false =>
    cases hB : getB (mkAt ⟨mk, fi, R⟩ z) 0 with
    | false =>
      have hm : hasM ⟨mk, fi, R⟩ z = false := by unfold hasM; rw [hB]; rfl
      have HR := hid (read_bad HI.out hz (Or.inl hm))
      clear hm
      generalize getN (mkAt ⟨mk, fi, R⟩ z) 0 = Y at *
      go_enter Tryz.func38, Tryz.ntmps38
      go_wp2_with (first
        | (go_at_call 23; with_reducible refine cR.mono ?_; rintro e w1 ⟨rfl, hb1⟩; have sM1 := sM.below hb1; have hL1 := hL.below hb1; obtain ⟨c0, c1, c2⟩ := And.intro hL1.c0 (And.intro hL1.c1 hL1.c2); have cZ := zero_any _ 64 (cap - mk * 64) _ w1 sM1 n64; rw [hz] at cZ; have cG := get_any _ 64 (cap - mk * 64) _ 0 w1 sM1 bM n64; rw [hB] at cG)
        | (go_at_call 56; with_reducible refine cZ.mono ?_; rintro e w' ⟨rfl, rfl⟩)
        | (go_at_call 57; with_reducible refine cG.mono ?_; rintro e w' ⟨rfl, rfl⟩))
      go_ret2
      exact ⟨none, 0, 0, fun _ => default, (by rw [HR.out.1]; rfl), ownC_nil _ _ _, (by rw [HR.out.2]; rfl), next hb hb1⟩
    | true =>
      obtain ⟨y0, y1⟩ := getN_range bM hB
      by_cases hr : getN (mkAt ⟨mk, fi, R⟩ z) 0 ≤ R
      · have hm : hasM ⟨mk, fi, R⟩ z = true := by unfold hasM; rw [hB, decide_eq_true hr]; rfl
        have HC : Hid (cntAt ⟨mk, fi, R⟩ z = (getN (mkAt ⟨mk, fi, R⟩ z) 0).toNat ∧ rsAt ⟨mk, fi, R⟩ z = (z.drop (fi * 64)).take (cntAt ⟨mk, fi, R⟩ z * 128)) := ⟨rfl, rfl⟩
        have HG : Hid (readOk ⟨mk, fi, R⟩ z = (chgsB (rsAt ⟨mk, fi, R⟩ z) (cntAt ⟨mk, fi, R⟩ z) && (rightL (N : Int) (chgsN (rsAt ⟨mk, fi, R⟩ z) (cntAt ⟨mk, fi, R⟩ z)) && wroteB ⟨mk, fi, R⟩ (chgsN (rsAt ⟨mk, fi, R⟩ z) (cntAt ⟨mk, fi, R⟩ z)) (rsAt ⟨mk, fi, R⟩ z) (mkAt ⟨mk, fi, R⟩ z)))) := by unfold readOk; rw [HLn.out]; exact rfl
        obtain ⟨c, hc⟩ : ∃ c, c = cntAt ⟨mk, fi, R⟩ z := ⟨_, rfl⟩
        obtain ⟨rs, hrs⟩ : ∃ rs, rs = rsAt ⟨mk, fi, R⟩ z := ⟨_, rfl⟩
        have hcY : getN (mkAt ⟨mk, fi, R⟩ z) 0 = (c : Int) := by rw [hc, HC.out.1]; omega
        rw [hcY] at hr
        have hc4 : c ≤ 4096 := by omega
        have hfit := HA.out c hr
        have sR0 := HS.out.partAt (fi * 64) (c * 128) hfit
        have eR : (z.drop (fi * 64)).take (c * 128) = rs := by rw [hrs, HC.out.2, hc]
        rw [eR] at sR0
        have bR : Bytes rs := by rw [← eR]; exact (hby.drop _).take _
        have hcap2 : cap - fi * 64 ≤ 9223372036854775807 := by omega
        have hcm : c * 128 = 128 * c := by omega
        rw [← hc, ← hrs] at HG
        have n3 : fi * 64 + c * 128 ≤ cap := by omega
        have HK := hid (And.intro hc hrs)
        have HB2 := hid (And.intro sR0 (And.intro bR hcm))
        have hrR : ¬ (R < (c : Int)) := by omega
        have rgN : Rg (N : Int) := hR
        clear HC hc hrs eR sR0 y0 y1 HS HA hby hcm
        cases hcb : chgsB rs c with
        | false =>
          have HR := hid (read_bad HI.out hz (Or.inr (by rw [HG.out, hcb]; rfl)))
          go_enter Tryz.func38, Tryz.ntmps38
          go_wp2_with (first
            | (go_at_call 23; with_reducible refine cR.mono ?_; rintro e w1 ⟨rfl, hb1⟩; have sM1 := sM.below hb1; have hL1 := hL.below hb1; obtain ⟨c0, c1, c2⟩ := And.intro hL1.c0 (And.intro hL1.c1 hL1.c2); have cZ := zero_any _ 64 (cap - mk * 64) _ w1 sM1 n64; rw [hz] at cZ; have cG := get_any _ 64 (cap - mk * 64) _ 0 w1 sM1 bM n64; rw [hB, hcY] at cG; have sR1 := HB2.out.1.below (next hb hb1); have cC := changesOf_any b (off + fi * 64) (c * 128) c (cap - fi * 64) rs w1 sR1 HB2.out.2.1 HB2.out.2.2 hc4 hcap2; rw [hcb] at cC)
            | (go_at_call 56; with_reducible refine cZ.mono ?_; rintro e w' ⟨rfl, rfl⟩)
            | (go_at_call 57; with_reducible refine cG.mono ?_; rintro e w' ⟨rfl, rfl⟩)
            | (go_at_call 58; with_reducible refine cC.mono ?_; rintro e w2 ⟨lo, k, lc, D, rfl, oC, hD, hb2⟩))
          go_ret2
          exact ⟨none, 0, 0, fun _ => default, (by rw [HR.out.1]; rfl), ownC_nil _ _ _, (by rw [HR.out.2]; rfl), next (next hb hb1) hb2⟩
        | true =>
          cases hrl : rightL (N : Int) (chgsN rs c) with
          | false =>
            have HR := hid (read_bad HI.out hz (Or.inr (by rw [HG.out, hcb, hrl]; rfl)))
            go_enter Tryz.func38, Tryz.ntmps38
            go_wp2_with (first
              | (go_at_call 23; with_reducible refine cR.mono ?_; rintro e w1 ⟨rfl, hb1⟩; have sM1 := sM.below hb1; have hL1 := hL.below hb1; obtain ⟨c0, c1, c2⟩ := And.intro hL1.c0 (And.intro hL1.c1 hL1.c2); have cZ := zero_any _ 64 (cap - mk * 64) _ w1 sM1 n64; rw [hz] at cZ; have cG := get_any _ 64 (cap - mk * 64) _ 0 w1 sM1 bM n64; rw [hB, hcY] at cG; have sR1 := HB2.out.1.below (next hb hb1); have cC := changesOf_any b (off + fi * 64) (c * 128) c (cap - fi * 64) rs w1 sR1 HB2.out.2.1 HB2.out.2.2 hc4 hcap2; rw [hcb] at cC)
              | (go_at_call 56; with_reducible refine cZ.mono ?_; rintro e w' ⟨rfl, rfl⟩)
              | (go_at_call 57; with_reducible refine cG.mono ?_; rintro e w' ⟨rfl, rfl⟩)
              | (go_at_call 58; with_reducible refine cC.mono ?_; rintro e w2 ⟨lo, k, lc, D, rfl, oC, hD, hb2⟩; rw [chgsW_t hcb] at hD; have cK := right_any (N : Int) lo k lc D w2 oC.chs; rw [rightB_eq, hD, hrl] at cK)
              | (go_at_call 27; with_reducible refine cK.mono ?_; rintro e w3 ⟨rfl, hb3⟩))
            go_ret2
            exact ⟨none, 0, 0, fun _ => default, (by rw [HR.out.1]; rfl), ownC_nil _ _ _, (by rw [HR.out.2]; rfl), next (next (next hb hb1) hb2) hb3⟩
          | true =>
            cases hwr : wroteB ⟨mk, fi, R⟩ (chgsN rs c) rs (mkAt ⟨mk, fi, R⟩ z) with
            | false =>
              have HR := hid (read_bad HI.out hz (Or.inr (by rw [HG.out, hcb, hrl, hwr]; rfl)))
              go_enter Tryz.func38, Tryz.ntmps38
              go_wp2_with (first
                | (go_at_call 23; with_reducible refine cR.mono ?_; rintro e w1 ⟨rfl, hb1⟩; have sM1 := sM.below hb1; have hL1 := hL.below hb1; obtain ⟨c0, c1, c2⟩ := And.intro hL1.c0 (And.intro hL1.c1 hL1.c2); have cZ := zero_any _ 64 (cap - mk * 64) _ w1 sM1 n64; rw [hz] at cZ; have cG := get_any _ 64 (cap - mk * 64) _ 0 w1 sM1 bM n64; rw [hB, hcY] at cG; have sR1 := HB2.out.1.below (next hb hb1); have cC := changesOf_any b (off + fi * 64) (c * 128) c (cap - fi * 64) rs w1 sR1 HB2.out.2.1 HB2.out.2.2 hc4 hcap2; rw [hcb] at cC)
                | (go_at_call 56; with_reducible refine cZ.mono ?_; rintro e w' ⟨rfl, rfl⟩)
                | (go_at_call 57; with_reducible refine cG.mono ?_; rintro e w' ⟨rfl, rfl⟩)
                | (go_at_call 58; with_reducible refine cC.mono ?_; rintro e w2 ⟨lo, k, lc, D, rfl, oC, hD, hb2⟩; rw [chgsW_t hcb] at hD; have cK := right_any (N : Int) lo k lc D w2 oC.chs; rw [rightB_eq, hD, hrl] at cK)
                | (go_at_call 27; with_reducible refine cK.mono ?_; rintro e w3 ⟨rfl, hb3⟩; have hL3 := (hL1.below hb2).below hb3; obtain ⟨d0, d1, d2⟩ := And.intro hL3.c0 (And.intro hL3.c1 hL3.c2); have cW := isWritten_any mk fi R lo k lc D _ (c * 128) (cap - fi * 64) rs _ 64 (cap - mk * 64) (mkAt ⟨mk, fi, R⟩ z) w3 hg (oC.chs.below hb3) ((sR1.below hb2).below hb3) ((sM1.below hb2).below hb3) HB2.out.2.1 bM (ownC_bytes oC); rw [hD, hwr] at cW)
                | (go_at_call 59; with_reducible refine cW.mono ?_; rintro e w4 ⟨rfl, hb4⟩))
              go_ret2
              exact ⟨none, 0, 0, fun _ => default, (by rw [HR.out.1]; rfl), ownC_nil _ _ _, (by rw [HR.out.2]; rfl), next (next (next (next hb hb1) hb2) hb3) hb4⟩
            | true =>
              have HR := hid (read_good HI.out hz hm (by rw [HG.out, hcb, hrl, hwr]; rfl))
              go_enter Tryz.func38, Tryz.ntmps38
              go_wp2_with (first
                | (go_at_call 23; with_reducible refine cR.mono ?_; rintro e w1 ⟨rfl, hb1⟩; have sM1 := sM.below hb1; have hL1 := hL.below hb1; obtain ⟨c0, c1, c2⟩ := And.intro hL1.c0 (And.intro hL1.c1 hL1.c2); have cZ := zero_any _ 64 (cap - mk * 64) _ w1 sM1 n64; rw [hz] at cZ; have cG := get_any _ 64 (cap - mk * 64) _ 0 w1 sM1 bM n64; rw [hB, hcY] at cG; have sR1 := HB2.out.1.below (next hb hb1); have cC := changesOf_any b (off + fi * 64) (c * 128) c (cap - fi * 64) rs w1 sR1 HB2.out.2.1 HB2.out.2.2 hc4 hcap2; rw [hcb] at cC)
                | (go_at_call 56; with_reducible refine cZ.mono ?_; rintro e w' ⟨rfl, rfl⟩)
                | (go_at_call 57; with_reducible refine cG.mono ?_; rintro e w' ⟨rfl, rfl⟩)
                | (go_at_call 58; with_reducible refine cC.mono ?_; rintro e w2 ⟨lo, k, lc, D, rfl, oC, hD, hb2⟩; rw [chgsW_t hcb] at hD; have cK := right_any (N : Int) lo k lc D w2 oC.chs; rw [rightB_eq, hD, hrl] at cK)
                | (go_at_call 27; with_reducible refine cK.mono ?_; rintro e w3 ⟨rfl, hb3⟩; have hL3 := (hL1.below hb2).below hb3; obtain ⟨d0, d1, d2⟩ := And.intro hL3.c0 (And.intro hL3.c1 hL3.c2); have cW := isWritten_any mk fi R lo k lc D _ (c * 128) (cap - fi * 64) rs _ 64 (cap - mk * 64) (mkAt ⟨mk, fi, R⟩ z) w3 hg (oC.chs.below hb3) ((sR1.below hb2).below hb3) ((sM1.below hb2).below hb3) HB2.out.2.1 bM (ownC_bytes oC); rw [hD, hwr] at cW)
                | (go_at_call 59; with_reducible refine cW.mono ?_; rintro e w4 ⟨rfl, hb4⟩))
              go_ret2
              have hs1 := (next hb hb1).size
              exact ⟨lo, k, lc, D, (by rw [HR.out.1]; rfl), ((oC.below hb3).below hb4).mono hs1, (by rw [hD, HR.out.2, HK.out.1, HK.out.2]), next (next (next (next hb hb1) hb2) hb3) hb4⟩
      · have hm : hasM ⟨mk, fi, R⟩ z = false := by unfold hasM; rw [decide_eq_false hr, Bool.and_false]
        have HR := hid (read_bad HI.out hz (Or.inl hm))
        have hr' : R < getN (mkAt ⟨mk, fi, R⟩ z) 0 := by omega
        clear hm hr
        go_enter Tryz.func38, Tryz.ntmps38
        go_wp2_with (first
          | (go_at_call 23; with_reducible refine cR.mono ?_; rintro e w1 ⟨rfl, hb1⟩; have sM1 := sM.below hb1; have hL1 := hL.below hb1; obtain ⟨c0, c1, c2⟩ := And.intro hL1.c0 (And.intro hL1.c1 hL1.c2); have cZ := zero_any _ 64 (cap - mk * 64) _ w1 sM1 n64; rw [hz] at cZ; have cG := get_any _ 64 (cap - mk * 64) _ 0 w1 sM1 bM n64; rw [hB] at cG)
          | (go_at_call 56; with_reducible refine cZ.mono ?_; rintro e w' ⟨rfl, rfl⟩)
          | (go_at_call 57; with_reducible refine cG.mono ?_; rintro e w' ⟨rfl, rfl⟩))
        go_ret2
        exact ⟨none, 0, 0, fun _ => default, (by rw [HR.out.1]; rfl), ownC_nil _ _ _, (by rw [HR.out.2]; rfl), next hb hb1⟩

theorem read_any (M F R : Int) (ao : Option Addr) (n cap : Nat) (z : List Int) (w : World) (hg : (Lg.mk M F R).Ok) (hs : Sl .u8 w ao n cap z) (hby : Bytes z) (hcap : cap ≤ 9223372036854775807) :
    Calls Tryz.prog 38 #[.agg #[.int .i64 M, .int .i64 F, .int .i64 R], .slice ao n cap] w fun e w' => ∃ lo k lc D, e = .returned (.tuple #[.slice lo k lc, .int .i64 (readE ⟨M, F, R⟩ z)]) ∧ OwnC w.heap.size w' lo k lc D ∧ saysN D k = readL ⟨M, F, R⟩ z ∧ Below w.heap.size w w' := by
  cases h : imgOk ⟨M, F, R⟩ z with
  | false =>
    rw [(read_arg h).1, (read_arg h).2]
    exact (read_refused M F R ao n cap z w hg hs (by have := hs.room; omega) h).mono fun e w' ⟨h1, h2⟩ => ⟨none, 0, 0, fun _ => default, h1, ownC_nil _ _ _, rfl, h2⟩
  | true => exact read_taken M F R ao n cap z w hg hs hby hcap h
end Go.Proofs.YtgiippbjieecmaaGreat
/- What was written is read: plain facts. -/
namespace Go.Proofs.YtgiippbjieecmaaGreat
set_option maxRecDepth 100000
open Go.RowKit
set_option linter.unusedVariables false

theorem recAt_recsL {l : List Chg} (h : ∀ c ∈ l, c.2.length = 64) {i : Nat} {c : Chg} (hi : l[i]? = some c) : recAt (recsL l) i = recL c := by
  induction l generalizing i with
  | nil => simp at hi
  | cons d l ih =>
    have hd := recL_length (h d (by simp))
    unfold recAt
    rw [recsL_cons]
    cases i with
    | zero =>
      simp only [List.getElem?_cons_zero, Option.some.injEq] at hi
      subst hi
      rw [Nat.mul_zero, List.drop_zero, List.take_append_of_le_length (by omega), List.take_of_length_le (by omega)]
    | succ i =>
      simp only [List.getElem?_cons_succ] at hi
      rw [List.drop_append, hd, List.drop_eq_nil_of_le (by omega), List.nil_append, show 128 * (i + 1) - 128 = 128 * i by omega]
      exact ih (fun d hd => h d (by simp [hd])) hi
theorem word_first {x : Int} (hx : fitB x = true) (rest tl : List Int) : getN (ofL (x :: rest) ++ tl) 0 = x ∧ getB (ofL (x :: rest) ++ tl) 0 = true := by
  have hl : (ofL (x :: rest) ++ tl).length = (rest.length + 1) * 8 + tl.length := by simp [ofL_length]
  have hh : hasB (ofL (x :: rest) ++ tl).length 0 = true := hasB_t (by omega) (by rw [hl]; omega)
  have hc : cut (ofL (x :: rest) ++ tl) (0 : Int).toNat = bys x 8 := by
    unfold cut
    show ((ofL (x :: rest) ++ tl).drop (8 * 0)).take 8 = _
    rw [Nat.mul_zero, List.drop_zero]
    have : ofL (x :: rest) = bys x 8 ++ ofL rest := by simp [ofL]
    rw [this, List.append_assoc, List.take_append_of_le_length (by rw [bys_length]; omega), List.take_of_length_le (by rw [bys_length]; omega)]
  obtain ⟨w1, w2⟩ := word_bys hx
  unfold getN getB
  rw [if_pos hh, hc, w1, w2, hh]
  exact ⟨rfl, rfl⟩
theorem chgs_recsL {l : List Chg} (h : ∀ c ∈ l, 0 ≤ c.1 ∧ c.1 < 4096 ∧ c.2.length = 64) : chgsB (recsL l) l.length = true ∧ chgsN (recsL l) l.length = l := by
  have key : ∀ i c, l[i]? = some c → getB (recAt (recsL l) i) 0 = true ∧ chgAt (recsL l) i = c := fun i c hi => by
    have hc := h c (List.mem_of_getElem? hi)
    have e := recAt_recsL (fun d hd => (h d hd).2.2) hi
    have hf : fitB c.1 = true := fitB_t hc.1 (by omega)
    obtain ⟨g1, g2⟩ := word_first hf [0, 0, 0, 0, 0, 0, 0] c.2
    unfold chgAt
    rw [e]
    unfold recL
    rw [g1, g2]
    refine ⟨rfl, ?_⟩
    rw [List.drop_append, List.drop_eq_nil_of_le (by rw [ofL_length]; simp), ofL_length, List.nil_append]
    simp
  constructor
  · unfold chgsB
    rw [List.all_eq_true]
    intro i hi
    have hi' : i < l.length := by simpa using hi
    exact (key i _ (List.getElem?_eq_getElem hi')).1
  · apply List.ext_getElem?
    intro i
    unfold chgsN
    rw [List.getElem?_map]
    by_cases hi : i < l.length
    · rw [List.getElem?_range hi, List.getElem?_eq_getElem hi]
      simp only [Option.map_some]
      rw [(key i _ (List.getElem?_eq_getElem hi)).2]
    · rw [List.getElem?_eq_none (by simpa using hi), List.getElem?_eq_none (by omega)]
      rfl
theorem mark_word {k s : Nat} (hk : k ≤ 4096) : getN (markN k s) 0 = k ∧ getB (markN k s) 0 = true := by
  have := word_first (x := (k : Int)) (fitB_t (by omega) (by omega)) [(s : Int), 0, 0, 0, 0, 0, 0] []
  rw [List.append_nil] at this
  exact this
theorem mark_zero {k s : Nat} (hk : k ≤ 4096) (hs : s < 4294967296) (h : 0 < k) : allZ (markN k s) = false := by
  unfold markN
  rw [allZ_ofL (okL_mark hk hs)]
  unfold allZ
  simp only [List.all_cons, Bool.and_eq_false_imp]
  intro e
  simp at e
  omega
/-- An image in which changes' records and mark lie tells them. -/
theorem read_written {g : Lg} {n : Nat} {l : List Chg} {z : List Int} (hz : z.length = 64 * n) (hn : n ≤ 4096) (hg : RightG g n) (hw : writeE g l = 0) (hr : rightL n l = true) (hby : ∀ c ∈ l, Bytes c.2) (hm : mkAt g z = markL (recsL l)) (hrs : (z.drop (g.first.toNat * 64)).take (l.length * 128) = recsL l) : readE g z = 0 ∧ readL g z = l := by
  have hzn : z.length / 64 = n := by omega
  have hok : imgOk g z = true := by
    unfold imgOk
    rw [hzn, rightG_iff.2 hg, decide_eq_true ⟨by omega, hn⟩]
    rfl
  obtain ⟨_, w2, w3, w4⟩ := writeE_zero hw
  have hmem : ∀ c ∈ l, 0 ≤ c.1 ∧ c.1 < 4096 ∧ c.2.length = 64 := fun c hc => rightL_mem w2 hc
  have hrl : (recsL l).length = 128 * l.length := recsL_length (fun c hc => (hmem c hc).2.2)
  have hl4 : l.length ≤ 4096 := by have := rightL_len w2; omega
  have hlt := sumN_lt (s := 0) (by omega) (recsL_bytes hby)
  have hM : markL (recsL l) = markN l.length (sumN 0 (recsL l)) := by unfold markL; rw [hrl, Nat.mul_div_cancel_left _ (by omega)]
  by_cases h0 : l = []
  · subst h0
    have hz' : allZ (mkAt g z) = true := by rw [hm]; show allZ (markL []) = true; rw [markL_nil]; decide
    exact read_none hok hz'
  · have hpos : 0 < l.length := List.length_pos_iff.2 h0
    rw [hM] at hm
    have hz' : allZ (mkAt g z) = false := by rw [hm]; exact mark_zero hl4 hlt hpos
    obtain ⟨q1, q2⟩ := mark_word (s := sumN 0 (recsL l)) hl4
    have hh : hasM g z = true := by
      unfold hasM
      rw [hm, q1, q2, decide_eq_true w4]
      rfl
    have hc : cntAt g z = l.length := by unfold cntAt; rw [hm, q1]; simp
    have hrs' : rsAt g z = recsL l := by unfold rsAt; rw [hc]; exact hrs
    obtain ⟨k1, k2⟩ := chgs_recsL hmem
    have hro : readOk g z = true := by
      unfold readOk
      rw [hc, hrs', k1, k2, hzn, hr, wroteB_t ⟨hw, rfl, by rw [hm, hM]⟩]
      rfl
    have := read_good hok hz' hh hro
    rw [hc, hrs', k2] at this
    exact this
/-- An image whose mark is 0 tells nothing. -/
theorem read_zeros {g : Lg} {n : Nat} {z : List Int} (hz : z.length = 64 * n) (hn : n ≤ 4096) (hg : RightG g n) (hm : mkAt g z = List.replicate 64 0) : readE g z = 0 ∧ readL g z = [] := by
  have hzn : z.length / 64 = n := by omega
  have hok : imgOk g z = true := by
    unfold imgOk
    rw [hzn, rightG_iff.2 hg, decide_eq_true ⟨by omega, hn⟩]
    rfl
  exact read_none hok (by rw [hm]; decide)
end Go.Proofs.YtgiippbjieecmaaGreat
/- What the document reads of an image: plain facts. -/
namespace Go.Proofs.YtgiippbjieecmaaGreat
set_option maxRecDepth 100000
open Go.RowKit
set_option linter.unusedVariables false

theorem getN_lo {zs : List Int} (hb : Bytes zs) : 0 ≤ getN zs 0 ∧ getN zs 0 ≤ 4611686018427387903 := by
  unfold getN
  split
  · unfold wN
    split
    · rename_i h
      exact ⟨(le_bound (cut_bytes hb _)).1, h⟩
    · omega
  · omega
theorem getB_pos {zs : List Int} (h : ¬ getN zs 0 < 1) : getB zs 0 = true := by
  cases h1 : hasB zs.length 0 with
  | false =>
    unfold getN at h
    rw [h1] at h
    exact absurd h (by simp)
  | true =>
    unfold getN at h
    rw [h1, if_pos rfl] at h
    unfold getB
    rw [h1, Bool.true_and]
    by_cases h2 : le (cut zs (0 : Int).toNat) ≤ 4611686018427387903
    · exact wB_t h2
    · unfold wN at h
      rw [if_neg h2] at h
      exact absurd h (by simp)
theorem ref_low {g : Lg} {z : List Int} (h : imgOk g z = true) (hb : Bytes z) (h2 : allZ (mkAt g z) = false) (h3 : getN (mkAt g z) 0 < 1) : readE g z = 7 ∧ readL g z = [] := by
  refine read_bad h h2 ?_
  cases hm : hasM g z with
  | false => exact Or.inl rfl
  | true =>
    right
    have hbm : Bytes (mkAt g z) := (hb.drop _).take _
    have h0 := getN_lo hbm
    have hc : cntAt g z = 0 := by unfold cntAt; omega
    unfold readOk
    rw [hc]
    have : wroteB g (chgsN (rsAt g z) 0) (rsAt g z) (mkAt g z) = false := by
      refine wroteB_f fun hw => ?_
      have e : markL (recsL (chgsN (rsAt g z) 0)) = mkAt g z := hw.2.2
      have e0 : recsL (chgsN (rsAt g z) 0) = [] := rfl
      rw [e0, markL_nil] at e
      rw [← e] at h2
      exact absurd h2 (by decide)
    rw [this]
    simp
theorem ref_high {g : Lg} {z : List Int} (h : imgOk g z = true) (h2 : allZ (mkAt g z) = false) (h3 : g.room < getN (mkAt g z) 0) : readE g z = 7 ∧ readL g z = [] :=
  read_bad h h2 (Or.inl (by unfold hasM; rw [decide_eq_false (by omega), Bool.and_false]))
def refOk (n : Int) (g : Lg) (l : List Chg) (rs m : List Int) : Bool := rightL n l && (!meetsG g l && (decide (recsL l = rs) && decide (markL rs = m)))
theorem chgsN_length (b : List Int) (k : Nat) : (chgsN b k).length = k := by simp [chgsN]
theorem ref_ok {g : Lg} {z : List Int} (h : imgOk g z = true) (hb : Bytes z) (h3 : getN (mkAt g z) 0 ≤ g.room) : readOk g z = refOk ((z.length / 64 : Nat) : Int) g (chgsN (rsAt g z) (cntAt g z)) (rsAt g z) (mkAt g z) := by
  unfold imgOk at h
  rw [Bool.and_eq_true, decide_eq_true_eq] at h
  obtain ⟨⟨z1, z2⟩, hG⟩ := h
  have hbm : Bytes (mkAt g z) := (hb.drop _).take _
  have h0 := getN_lo hbm
  generalize hN : z.length / 64 = N at *
  have hroom : ((chgsN (rsAt g z) (cntAt g z)).length : Int) ≤ g.room := by rw [chgsN_length]; unfold cntAt; omega
  have hlen := chgsN_length (rsAt g z) (cntAt g z)
  unfold readOk refOk
  rw [hN]
  generalize hl : chgsN (rsAt g z) (cntAt g z) = l at *
  cases hr : rightL (N : Int) l with
  | false => simp
  | true =>
    have hr4 : rightL 4096 l = true := rightL_mono hr (by omega)
    have hG4 : rightG g 4096 = true := rightG_iff.2 ((rightG_iff.1 hG).mono (by omega))
    have hmem : ∀ c ∈ l, 0 ≤ c.1 ∧ c.1 < 4096 ∧ c.2.length = 64 := fun c hc => rightL_mem hr4 hc
    rw [Bool.eq_iff_iff]
    constructor
    · intro e
      simp only [Bool.and_eq_true, Bool.true_and] at e ⊢
      obtain ⟨_, hw⟩ := e
      unfold wroteB at hw
      obtain ⟨w1, w2, w3⟩ := of_decide_eq_true hw
      have := writeE_zero w1
      rw [this.2.2.1, decide_eq_true w2, ← w2, decide_eq_true w3]
      exact ⟨rfl, rfl, rfl⟩
    · intro e
      simp only [Bool.and_eq_true, Bool.true_and, decide_eq_true_eq] at e ⊢
      obtain ⟨e1, e2, e3⟩ := e
      have hm : meetsG g l = false := by simpa using e1
      refine ⟨?_, ?_⟩
      · have := (chgs_recsL hmem).1
        rwa [e2, hlen] at this
      · exact wroteB_t ⟨writeE_ok (by rw [hG4, hr4, hm]; rfl) (by omega), e2, by rw [e2]; exact e3⟩
end Go.Proofs.YtgiippbjieecmaaGreat
