/- joistref05.Read by its contract. -/
import Derived.Test.YtgiippbjieecmaaGreatMgC
import Derived.Test.YtgiippbjieecmaaGreatRefLog
import Derived.Test.YtgiippbjieecmaaGreatRefGet
namespace Go.Proofs.YtgiippbjieecmaaGreat
set_option maxRecDepth 100000
open Go.RowKit
set_option linter.unusedVariables false

theorem refread_refused (M F R : Int) (ao : Option Addr) (n cap : Nat) (z : List Int) (w : World) (hg : (Lg.mk M F R).Ok) (hs : Sl .u8 w ao n cap z) (hn : n ≤ 9223372036854775807) (h : imgOk ⟨M, F, R⟩ z = false) :
    Calls Tryz.prog 39 #[.agg #[.int .i64 M, .int .i64 F, .int .i64 R], .slice ao n cap] w fun e w' => e = .returned (.tuple #[.slice none 0 0, .int .i64 1]) ∧ Below w.heap.size w w' := by
  have hlen := hs.len
  have hb := (Below.refl w.heap.size w).alloc (Nat.le_refl _) (.cells #[.int .i64 M, .int .i64 F, .int .i64 R] 24)
  unfold imgOk at h
  rw [hlen] at h
  by_cases h1 : n % 64 = 0
  · have e1 : ((n : Int) % 64 != 0) = false := by simp; omega
    have eq : (n : Int) / 64 = ((n / 64 : Nat) : Int) := by omega
    by_cases h2 : n / 64 ≤ 4096
    · have h3 : rightG ⟨M, F, R⟩ ((n / 64 : Nat) : Int) = false := by simpa [h1, h2] using h
      have hR : Rg ((n / 64 : Nat) : Int) := by unfold Rg; omega
      have cR := refwright_any M F R ((n / 64 : Nat) : Int) (w.alloc (.cells #[.int .i64 M, .int .i64 F, .int .i64 R] 24)) hg hR
      rw [h3] at cR
      have h2' : ¬ ((4096 : Int) < ((n / 64 : Nat) : Int)) := by omega
      generalize n / 64 = N at *
      clear h1 h hlen hs
      go_enter Tryz.func39, Tryz.ntmps39
      go_wp2_with (go_at_call 32; with_reducible refine cR.mono ?_; rintro e w1 ⟨rfl, hb1⟩)
      go_ret2
      exact ⟨rfl, next hb hb1⟩
    · have h2' : (4096 : Int) < ((n / 64 : Nat) : Int) := by omega
      generalize n / 64 = N at *
      clear h1 h hlen hs
      go_enter Tryz.func39, Tryz.ntmps39
      go_wp2
      go_ret2
      exact ⟨rfl, hb⟩
  · have e1 : ((n : Int) % 64 != 0) = true := by simp; omega
    clear h1 h hlen hs
    go_enter Tryz.func39, Tryz.ntmps39
    go_wp2
    go_ret2
    exact ⟨rfl, hb⟩

set_option maxHeartbeats 6400000 in
theorem refread_taken (M F R : Int) (ao : Option Addr) (n cap : Nat) (z : List Int) (w : World) (hg : (Lg.mk M F R).Ok) (hs : Sl .u8 w ao n cap z) (hby : Bytes z) (hcap : cap ≤ 9223372036854775807) (h : imgOk ⟨M, F, R⟩ z = true) :
    Calls Tryz.prog 39 #[.agg #[.int .i64 M, .int .i64 F, .int .i64 R], .slice ao n cap] w fun e w' => ∃ lo k lc D, e = .returned (.tuple #[.slice lo k lc, .int .i64 (readE ⟨M, F, R⟩ z)]) ∧ OwnC w.heap.size w' lo k lc D ∧ saysN D k = readL ⟨M, F, R⟩ z ∧ Below w.heap.size w w' := by
  have hlen := hs.len
  have hroom := hs.room
  have hb := (Below.refl w.heap.size w).alloc (Nat.le_refl _) (.cells #[.int .i64 M, .int .i64 F, .int .i64 R] 24)
  have hL := logAt_new w M F R
  have h' := h
  unfold imgOk at h'
  rw [hlen, Bool.and_eq_true, decide_eq_true_eq] at h'
  obtain ⟨⟨h1, h2⟩, h3⟩ := h'
  have e1 : ((n : Int) % 64 != 0) = false := by simp; omega
  have eq : (n : Int) / 64 = ((n / 64 : Nat) : Int) := by omega
  have hR : Rg ((n / 64 : Nat) : Int) := by unfold Rg; omega
  have cR := refwright_any M F R ((n / 64 : Nat) : Int) (w.alloc (.cells #[.int .i64 M, .int .i64 F, .int .i64 R] 24)) hg hR
  rw [h3] at cR
  have h2' : ¬ ((4096 : Int) < ((n / 64 : Nat) : Int)) := by omega
  have hG := rightG_iff.1 h3
  have g1 := hG.m0
  have g2 := hG.m1
  have g3 := hG.f0
  have g4 := hG.f1
  have g5 := hG.r0
  have g6 := hG.r1
  simp only at g1 g2 g3 g4 g5 g6
  have HI := hid h
  have HLn : Hid (z.length / 64 = n / 64) := by rw [hlen]; exact rfl
  obtain ⟨mk, rfl⟩ : ∃ mk : Nat, M = mk := ⟨M.toNat, by omega⟩
  obtain ⟨fi, rfl⟩ : ∃ fi : Nat, F = fi := ⟨F.toNat, by omega⟩
  have a1 : mk * 64 + 64 ≤ n := by omega
  have a2 : ∀ c : Nat, (c : Int) ≤ R → fi * 64 + c * 128 ≤ n := fun c hc => by omega
  have a3 : fi * 64 + 128 ≤ n := by omega
  have n1 : ¬ (cap = mk * 64) := by omega
  have n2 : ¬ (cap = fi * 64) := by omega
  have n1' : ¬ (cap = 64 * mk) := by omega
  have n2' : ¬ (cap = 64 * fi) := by omega
  obtain ⟨b, off, rfl, hlt, _⟩ := hs.here (by omega)
  have e64 : 64 * (mk + 1) - 64 * mk = 64 := by omega
  have sM := (hs.below hb).partAt (64 * mk) 64 (by omega)
  have eM : (z.drop (64 * mk)).take 64 = mkAt ⟨mk, fi, R⟩ z := by rw [Nat.mul_comm]; rfl
  rw [eM] at sM
  have bM : Bytes (mkAt ⟨mk, fi, R⟩ z) := (hby.drop _).take _
  have y01 := getN_lo bM
  have HS := hid hs
  have HA := hid a2
  have HBy := hid hby
  generalize hN : n / 64 = N at *
  have HN := hid hN
  clear hG h h1 h2 h3 hs hlen hN a2 hby
  have n64 : 64 ≤ 140737488355328 := by omega
  cases hz : allZ (mkAt ⟨mk, fi, R⟩ z) with
  | true =>
    have HR := hid (read_none HI.out hz)
    go_enter Tryz.func39, Tryz.ntmps39
    go_wp2_with (first
      | (go_at_call 32; with_reducible refine cR.mono ?_; rintro e w1 ⟨rfl, hb1⟩; have sM1 := sM.below hb1; have hL1 := hL.below hb1; obtain ⟨c0, c1, c2⟩ := And.intro hL1.c0 (And.intro hL1.c1 hL1.c2); have cZ := refzero_any _ 64 (cap - 64 * mk) _ w1 sM1 n64; rw [hz] at cZ; have cG := refget_any _ 64 (cap - 64 * mk) _ 0 w1 sM1 bM n64)
      | (go_at_call 60; with_reducible refine cZ.mono ?_; rintro e w' ⟨rfl, rfl⟩))
    go_ret2
    exact ⟨none, 0, 0, fun _ => default, (by rw [HR.out.1]; rfl), ownC_nil _ _ _, (by rw [HR.out.2]; rfl), next hb hb1⟩
  | false =>
    by_cases hlo : getN (mkAt ⟨mk, fi, R⟩ z) 0 < 1
    · have HR := hid (ref_low HI.out HBy.out hz hlo)
      obtain ⟨Y, hY⟩ : ∃ Y, getN (mkAt ⟨mk, fi, R⟩ z) 0 = Y := ⟨_, rfl⟩
      rw [hY] at hlo y01
      go_enter Tryz.func39, Tryz.ntmps39
      go_wp2_with (first
        | (go_at_call 32; with_reducible refine cR.mono ?_; rintro e w1 ⟨rfl, hb1⟩; have sM1 := sM.below hb1; have hL1 := hL.below hb1; obtain ⟨c0, c1, c2⟩ := And.intro hL1.c0 (And.intro hL1.c1 hL1.c2); have cZ := refzero_any _ 64 (cap - 64 * mk) _ w1 sM1 n64; rw [hz] at cZ; have cG := refget_any _ 64 (cap - 64 * mk) _ 0 w1 sM1 bM n64; rw [hY] at cG)
        | (go_at_call 60; with_reducible refine cZ.mono ?_; rintro e w' ⟨rfl, rfl⟩)
        | (go_at_call 61; with_reducible refine cG.mono ?_; rintro e w' ⟨rfl, rfl⟩))
      go_ret2
      exact ⟨none, 0, 0, fun _ => default, (by rw [HR.out.1]; rfl), ownC_nil _ _ _, (by rw [HR.out.2]; rfl), next hb hb1⟩
    · by_cases hr : getN (mkAt ⟨mk, fi, R⟩ z) 0 ≤ R
      · have HC : Hid (cntAt ⟨mk, fi, R⟩ z = (getN (mkAt ⟨mk, fi, R⟩ z) 0).toNat ∧ rsAt ⟨mk, fi, R⟩ z = (z.drop (fi * 64)).take (cntAt ⟨mk, fi, R⟩ z * 128)) := ⟨rfl, rfl⟩
        have HM : Hid (readOk ⟨mk, fi, R⟩ z = true → readE ⟨mk, fi, R⟩ z = 0 ∧ readL ⟨mk, fi, R⟩ z = chgsN (rsAt ⟨mk, fi, R⟩ z) (cntAt ⟨mk, fi, R⟩ z)) := fun e => read_good HI.out hz (by unfold hasM; rw [getB_pos hlo, decide_eq_true hr]; rfl) e
        have HF : Hid (readOk ⟨mk, fi, R⟩ z = false → readE ⟨mk, fi, R⟩ z = 7 ∧ readL ⟨mk, fi, R⟩ z = []) := fun e => read_bad HI.out hz (Or.inr e)
        have HG : Hid (readOk ⟨mk, fi, R⟩ z = refOk (N : Int) ⟨mk, fi, R⟩ (chgsN (rsAt ⟨mk, fi, R⟩ z) (cntAt ⟨mk, fi, R⟩ z)) (rsAt ⟨mk, fi, R⟩ z) (mkAt ⟨mk, fi, R⟩ z)) := by have := ref_ok HI.out HBy.out hr; rw [HLn.out] at this; exact this
        obtain ⟨c, hc⟩ : ∃ c, c = cntAt ⟨mk, fi, R⟩ z := ⟨_, rfl⟩
        obtain ⟨rs, hrs⟩ : ∃ rs, rs = rsAt ⟨mk, fi, R⟩ z := ⟨_, rfl⟩
        have hcY : getN (mkAt ⟨mk, fi, R⟩ z) 0 = (c : Int) := by rw [hc, HC.out.1]; omega
        rw [hcY] at hr hlo
        have hc4 : c ≤ 4096 := by omega
        have hfit := HA.out c hr
        have sR0 := HS.out.partAt (64 * fi) (128 * c) (by omega)
        have eR : (z.drop (64 * fi)).take (128 * c) = rs := by rw [hrs, HC.out.2, hc, Nat.mul_comm 64, Nat.mul_comm 128]
        rw [eR] at sR0
        have bR : Bytes rs := by rw [← eR]; exact (HBy.out.drop _).take _
        rw [← hc, ← hrs] at HG HM
        generalize readOk ⟨mk, fi, R⟩ z = RO at *
        have n3 : 64 * fi + 128 * c ≤ cap := by omega
        have hrR : ¬ (R < (c : Int)) := by omega
        have HB2 := hid (And.intro sR0 bR)
        have e2c : 64 * (fi + 2 * c) - 64 * fi = 128 * c := by omega
        clear HC hc hrs eR sR0 bR
        go_enter Tryz.func39, Tryz.ntmps39
        go_wp2_with (first
          | (go_at_call 32; with_reducible refine cR.mono ?_; rintro e w1 ⟨rfl, hb1⟩; have sM1 := sM.below hb1; have hL1 := hL.below hb1; obtain ⟨c0, c1, c2⟩ := And.intro hL1.c0 (And.intro hL1.c1 hL1.c2); have cZ := refzero_any _ 64 (cap - 64 * mk) _ w1 sM1 n64; rw [hz] at cZ; have cG := refget_any _ 64 (cap - 64 * mk) _ 0 w1 sM1 bM n64; rw [hcY] at cG)
          | (go_at_call 60; with_reducible refine cZ.mono ?_; rintro e w' ⟨rfl, rfl⟩)
          | (go_at_call 61; with_reducible refine cG.mono ?_; rintro e w' ⟨rfl, rfl⟩))
        have HSM := hid sM1
        have HL1 := hid hL1
        have HBW := hid (next hb hb1)
        have sR1 := HB2.out.1.below HBW.out
        have HSR := hid sR1
        have HBR := hid HB2.out.2
        have HRL : Hid (rs.length = 128 * c) := HB2.out.1.len
        have hN4 : (N : Int) ≤ 4096 := by omega
        clear sM1 hL1 sR1 HB2 sM hL cR cZ cG c0 c1 c2 eq e1 h2' hR hb hb1 HS HA HBy
        have n3' : 128 * c ≤ cap - 64 * fi := by omega
        have hcp9 : cap - 64 * fi ≤ 9223372036854775807 := by omega
        rw [e2c]
        generalize cap - 64 * fi = cp at *
        generalize off + 64 * fi = o2 at *
        go_loopw [11, 12] (fun q t wr => ∃ (i : Nat) (lo : Option Addr) (lc : Nat) (D : Nat → ChD), i ≤ c ∧ t = .int .i64 i ∧ q = .slice lo i lc ∧ OwnC w1.heap.size wr lo i lc D ∧ Hid (saysN D i = chgsN rs i) ∧ Below w1.heap.size w1 wr) (fun _ t _ => c - (RowKit.intOf t).toNat)
        case atStart => exact ⟨0, none, 0, fun _ => default, Nat.zero_le _, rfl, rfl, ownC_nil _ _ _, rfl, Below.refl _ _⟩
        case round =>
          obtain ⟨i, lo, lc, D, hi, rfl, rfl, hown, HD, hbl⟩ := hrel
          by_cases hlt : i < c
          · have hii : (i : Int) < (c : Int) := by omega
            have sR := (HSR.out.below hbl).partAt (128 * i) 128 (by omega)
            have sB := (HSR.out.below hbl).partAt (128 * i + 64) 64 (by omega)
            have eR : (rs.drop (128 * i)).take 128 = recAt rs i := rfl
            have eB : (rs.drop (128 * i + 64)).take 64 = (recAt rs i).drop 64 := by unfold recAt; rw [List.drop_take, List.drop_drop]
            rw [eR] at sR
            rw [eB] at sB
            have hbR := recAt_bytes HBR.out i
            have hbB : Bytes ((recAt rs i).drop 64) := hbR.drop 64
            have HC : Hid (chgsN rs (i + 1) = chgsN rs i ++ [(getN (recAt rs i) 0, (recAt rs i).drop 64)]) := chgsN_succ rs i
            have hrg := getN_lo hbR
            have cG := refget_any _ 128 (cp - 128 * i) (recAt rs i) 0 wr sR hbR (by omega)
            have hb32 : (i + 1) * 32 ≤ 140737488355328 := by omega
            have hBr := hbl.size
            have q1 : ¬ (cp = 128 * i) := by omega
            have q3 : ¬ (cp - 128 * i = 64) := by omega
            have hbo : 128 * i + 128 ≤ cp := by omega
            have hbo' : 128 * (i + 1) ≤ cp := by omega
            have e128 : 128 * (i + 1) - 128 * i = 128 := by omega
            have hb50 : Below wr.heap.size wr (wr.alloc (.cells #[] 5)) := (Below.refl _ _).alloc (Nat.le_refl _) _
            have hmade : (wr.alloc (.cells #[] 5)).ownsRow wr.heap.size 5 1 (.slice (some ⟨wr.heap.size, 0, none⟩) 0 0) 0 (([] : List Int).map (Value.int .u8)) := World.ownsRow_made wr #[] 0 (Nat.le_refl _) (Nat.zero_le _) rfl
            have sx := sB.below hb50
            have hs0 : wr.heap.size ≤ (wr.alloc (.cells #[] 5)).heap.size := by simp
            have n640 : 0 + 64 ≤ 140737488355328 := by omega
            generalize (recAt rs i).drop 64 = Y at *
            obtain ⟨X, hX⟩ : ∃ X, getN (recAt rs i) 0 = X := ⟨_, rfl⟩
            rw [hX] at cG hrg HC
            have hrX : Rg X := ⟨by omega, by omega⟩
            clear sR sB hbR
            go_wp2_with (first
              | (go_at_call 61; with_reducible refine cG.mono ?_; rintro e w' ⟨rfl, rfl⟩)
              | (at_builtin; refine append_sl rfl (.tmp 87) (.tmp 89) rfl wr.heap.size _ 0 [] rfl hmade _ 64 _ Y rfl sx n640 hs0 ?_; intro bo1 cb1 w6 hcp hgr1 _; have hb6 : Below wr.heap.size wr w6 := hb50.grown hgr1 hs0 (fun b hb' => (hmade.lt b hb').1); rw [Nat.zero_add, List.nil_append] at hcp;
                 have hbA : Below w6.heap.size w6 (w6.alloc (.cells #[.int .i64 X, .slice bo1 64 cb1] 49)) := (Below.refl _ _).alloc (Nat.le_refl _) _;
                 have hownA := (hown.below hb6).below hbA;
                 have hcpA := (hcp.below hbA).mono hBr;
                 have hblA := next (next hbl hb6) hbA;
                 have hszA := hblA.size)
              | (at_builtin; refine append_chg rfl (.tmp 85) (.tmp 92) rfl w1.heap.size lo i lc D rfl hownA ⟨w6.heap.size, 0, none⟩ 1 ⟨X, bo1, 64, cb1, Y⟩ rfl (by simp) (by simp [Addr.add_lit]) ⟨hcpA, hrX, hbB⟩ hb32 hszA ?_; intro bo' c' w' hown' hgrow; have hb' := hblA.grown hgrow hszA (fun b hb' => (hownA.row.lt b hb').1)))
            go_roundw
            case rel => exact ⟨i + 1, bo', c', _, by omega, by go_num, rfl, hown', by rw [put1_says, HD.out, HC.out]; rfl, hb'⟩
            case measure => simp [RowKit.intOf]; omega
          · have hic : c = i := by omega
            subst hic
            have hDl : saysN D c = chgsN rs c := HD.out
            have ci : c ≤ 4096 := hc4
            have HOW := hid hown
            have hLr := HL1.out.below hbl
            obtain ⟨c0, c1, c2⟩ := And.intro hLr.c0 (And.intro hLr.c1 hLr.c2)
            have sR := (HSR.out.below hbl).below (w' := wr.drew) (below_drew (Below.refl _ _))
            have sM := (HSM.out.below hbl).below (w' := wr.drew) (below_drew (Below.refl _ _))
            have HLR := hid hLr
            have hbW := next (next HBW.out hbl) (below_drew (Below.refl _ _))
            have HW := hid hbW
            have hsz : w.heap.size ≤ w1.heap.size := HBW.out.size
            have hC0 := hown.chs.below (w' := wr.drew) (below_drew (Below.refl _ _))
            have cK := refright_any (N : Int) lo c lc D wr.drew hC0
            rw [rightB_eq, hDl] at cK
            have cK2 := hid cK
            obtain ⟨l, hl⟩ : ∃ l, l = chgsN rs c := ⟨_, rfl⟩
            rw [← hl] at hDl HG HM cK
            clear hLr hbW hown hl cK2 HD hbl
            generalize cap - 64 * mk = mp at *
            generalize off + 64 * mk = o3 at *
            cases hr1 : rightL (N : Int) l with
            | false =>
              have HRO : Hid (RO = false) := by rw [HG.out]; unfold refOk; rw [hr1]; exact rfl
              rw [hr1] at cK
              go_wp2_with fail
              refine wp_region_held_drew (S := fun w' => w'.cell? ⟨w.heap.size, 0, none⟩ = some (.int .i64 (mk : Int)) ∧ w'.cell? ⟨w.heap.size, 1, none⟩ = some (.int .i64 (fi : Int)) ∧ w'.cell? ⟨w.heap.size, 2, none⟩ = some (.int .i64 R) ∧ Sl .u8 w' (some ⟨b, o2, none⟩) (128 * c) cp rs ∧ Sl .u8 w' (some ⟨b, o3, none⟩) 64 mp (mkAt ⟨mk, fi, R⟩ z)) (by kernel_rfl) ⟨c0, c1, c2, sR, sM⟩ (fun hH => ?_)
              refine wpAnyH_take (i := 0) (v := ?_) (List.getElem?_toArray.trans rfl) (by kernel_rfl) (by kernel_rfl) (by kernel_rfl) (fun _ _ _ h => h) (Or.inl ⟨by rfl, ?_⟩) (by assumption) ?_
              rotate_left
              · (intro w hSw; obtain ⟨h1, h2, h3, h4, h5⟩ := hSw; go_simp; try (with_reducible rfl))
              simp only [Act.put, List.setIfInBounds_toArray, List.set_cons_zero, List.set_cons_succ]
              refine wpAnyH_take (i := 1) (v := ?_) (List.getElem?_toArray.trans rfl) (by kernel_rfl) (by kernel_rfl) (by kernel_rfl) (fun _ _ _ h => h) (Or.inl ⟨by rfl, ?_⟩) (by assumption) ?_
              rotate_left
              · (intro w hSw; obtain ⟨h1, h2, h3, h4, h5⟩ := hSw; go_simp; try (with_reducible rfl))
              simp only [Act.put, List.setIfInBounds_toArray, List.set_cons_zero, List.set_cons_succ]
              refine wpAnyH_ready (rs := [2]) (by kernel_rfl) (by simp) ?_
              refine AllReadyH.cons (List.getElem?_toArray.trans rfl) (fun K3 hK3 => ?_) AllReadyH.nil
              go_simp
              refine (cK).mono ?_
              rintro e w2 ⟨rfl, hb2⟩
              have hL2 := (HLR.out.below (w' := wr.drew) (below_drew (Below.refl _ _))).below hb2
              have sR2 := hH.2.2.2.1.below hb2
              have sM2 := hH.2.2.2.2.below hb2
              dsimp only
              refine hK3.out _ _ ⟨hL2.c0, hL2.c1, hL2.c2, sR2, sM2⟩ (fun hHeld3 => ?_)
              clear hK3 K3
              refine wpAnyH_take (i := 3) (v := ?_) (List.getElem?_toArray.trans rfl) (by kernel_rfl) (by kernel_rfl) (by kernel_rfl) (fun _ _ _ h => h) (Or.inl ⟨by rfl, ?_⟩) (by assumption) ?_
              rotate_left
              · (intro w hSw; obtain ⟨h1, h2, h3, h4, h5⟩ := hSw; go_simp; try (with_reducible rfl))
              simp only [Act.put, List.setIfInBounds_toArray, List.set_cons_zero, List.set_cons_succ]
              refine wpAnyH_take (i := 4) (v := ?_) (List.getElem?_toArray.trans rfl) (by kernel_rfl) (by kernel_rfl) (by kernel_rfl) (fun _ _ _ h => h) (Or.inl ⟨by rfl, ?_⟩) (by assumption) ?_
              rotate_left
              · (intro w hSw; obtain ⟨h1, h2, h3, h4, h5⟩ := hSw; go_simp; try (with_reducible rfl))
              simp only [Act.put, List.setIfInBounds_toArray, List.set_cons_zero, List.set_cons_succ]
              refine wpAnyH_take (i := 5) (v := undef) (List.getElem?_toArray.trans rfl) (by kernel_rfl) (by kernel_rfl) (by kernel_rfl) (fun _ _ _ h => h) (Or.inr ⟨by rfl, rfl⟩) (by assumption) ?_
              simp only [Act.put, List.setIfInBounds_toArray, List.set_cons_zero, List.set_cons_succ]
              refine wpAnyH_take (i := 6) (v := undef) (List.getElem?_toArray.trans rfl) (by kernel_rfl) (by kernel_rfl) (by kernel_rfl) (fun _ _ _ h => h) (Or.inr ⟨by rfl, rfl⟩) (by assumption) ?_
              simp only [Act.put, List.setIfInBounds_toArray, List.set_cons_zero, List.set_cons_succ]
              refine wpAnyH_take (i := 7) (v := undef) (List.getElem?_toArray.trans rfl) (by kernel_rfl) (by kernel_rfl) (by kernel_rfl) (fun _ _ _ h => h) (Or.inr ⟨by rfl, rfl⟩) (by assumption) ?_
              simp only [Act.put, List.setIfInBounds_toArray, List.set_cons_zero, List.set_cons_succ]
              refine wpAnyH_take (i := 8) (v := undef) (List.getElem?_toArray.trans rfl) (by kernel_rfl) (by kernel_rfl) (by kernel_rfl) (fun _ _ _ h => h) (Or.inr ⟨by rfl, rfl⟩) (by assumption) ?_
              simp only [Act.put, List.setIfInBounds_toArray, List.set_cons_zero, List.set_cons_succ]
              refine wpAnyH_take (i := 9) (v := ?_) (List.getElem?_toArray.trans rfl) (by kernel_rfl) (by kernel_rfl) (by kernel_rfl) (fun _ _ _ h => h) (Or.inl ⟨by rfl, ?_⟩) (by assumption) ?_
              rotate_left
              · (intro w hSw; obtain ⟨h1, h2, h3, h4, h5⟩ := hSw; go_simp; try (with_reducible rfl))
              simp only [Act.put, List.setIfInBounds_toArray, List.set_cons_zero, List.set_cons_succ]
              refine wpAnyH_take (i := 10) (v := ?_) (List.getElem?_toArray.trans rfl) (by kernel_rfl) (by kernel_rfl) (by kernel_rfl) (fun _ _ _ h => h) (Or.inl ⟨by rfl, ?_⟩) (by assumption) ?_
              rotate_left
              · (intro w hSw; obtain ⟨h1, h2, h3, h4, h5⟩ := hSw; go_simp; try (with_reducible rfl))
              simp only [Act.put, List.setIfInBounds_toArray, List.set_cons_zero, List.set_cons_succ]
              refine wpAnyH_take (i := 11) (v := undef) (List.getElem?_toArray.trans rfl) (by kernel_rfl) (by kernel_rfl) (by kernel_rfl) (fun _ _ _ h => h) (Or.inr ⟨by rfl, rfl⟩) (by assumption) ?_
              simp only [Act.put, List.setIfInBounds_toArray, List.set_cons_zero, List.set_cons_succ]
              refine wpAnyH_take (i := 12) (v := undef) (List.getElem?_toArray.trans rfl) (by kernel_rfl) (by kernel_rfl) (by kernel_rfl) (fun _ _ _ h => h) (Or.inr ⟨by rfl, rfl⟩) (by assumption) ?_
              simp only [Act.put, List.setIfInBounds_toArray, List.set_cons_zero, List.set_cons_succ]
              refine wpAnyH_take (i := 13) (v := undef) (List.getElem?_toArray.trans rfl) (by kernel_rfl) (by kernel_rfl) (by kernel_rfl) (fun _ _ _ h => h) (Or.inr ⟨by rfl, rfl⟩) (by assumption) ?_
              simp only [Act.put, List.setIfInBounds_toArray, List.set_cons_zero, List.set_cons_succ]
              refine wpAnyH_take (i := 14) (v := undef) (List.getElem?_toArray.trans rfl) (by kernel_rfl) (by kernel_rfl) (by kernel_rfl) (fun _ _ _ h => h) (Or.inr ⟨by rfl, rfl⟩) (by assumption) ?_
              simp only [Act.put, List.setIfInBounds_toArray, List.set_cons_zero, List.set_cons_succ]
              refine wpAnyH_take (i := 15) (v := undef) (List.getElem?_toArray.trans rfl) (by kernel_rfl) (by kernel_rfl) (by kernel_rfl) (fun _ _ _ h => h) (Or.inr ⟨by rfl, rfl⟩) (by assumption) ?_
              simp only [Act.put, List.setIfInBounds_toArray, List.set_cons_zero, List.set_cons_succ]
              refine wpAnyH_take (i := 16) (v := undef) (List.getElem?_toArray.trans rfl) (by kernel_rfl) (by kernel_rfl) (by kernel_rfl) (fun _ _ _ h => h) (Or.inr ⟨by rfl, rfl⟩) (by assumption) ?_
              simp only [Act.put, List.setIfInBounds_toArray, List.set_cons_zero, List.set_cons_succ]
              refine wpAnyH_take (i := 17) (v := ?_) (List.getElem?_toArray.trans rfl) (by kernel_rfl) (by kernel_rfl) (by kernel_rfl) (fun _ _ _ h => h) (Or.inl ⟨by rfl, ?_⟩) (by assumption) ?_
              rotate_left
              · (intro w hSw; obtain ⟨h1, h2, h3, h4, h5⟩ := hSw; go_simp; try (with_reducible rfl))
              simp only [Act.put, List.setIfInBounds_toArray, List.set_cons_zero, List.set_cons_succ]
              refine wpAnyH_take (i := 18) (v := ?_) (List.getElem?_toArray.trans rfl) (by kernel_rfl) (by kernel_rfl) (by kernel_rfl) (fun _ _ _ h => h) (Or.inl ⟨by rfl, ?_⟩) (by assumption) ?_
              rotate_left
              · (intro w hSw; obtain ⟨h1, h2, h3, h4, h5⟩ := hSw; go_simp; try (with_reducible rfl))
              simp only [Act.put, List.setIfInBounds_toArray, List.set_cons_zero, List.set_cons_succ]
              refine wpAnyH_take (i := 19) (v := undef) (List.getElem?_toArray.trans rfl) (by kernel_rfl) (by kernel_rfl) (by kernel_rfl) (fun _ _ _ h => h) (Or.inr ⟨by rfl, rfl⟩) (by assumption) ?_
              simp only [Act.put, List.setIfInBounds_toArray, List.set_cons_zero, List.set_cons_succ]
              refine wpAnyH_take (i := 20) (v := undef) (List.getElem?_toArray.trans rfl) (by kernel_rfl) (by kernel_rfl) (by kernel_rfl) (fun _ _ _ h => h) (Or.inr ⟨by rfl, rfl⟩) (by assumption) ?_
              simp only [Act.put, List.setIfInBounds_toArray, List.set_cons_zero, List.set_cons_succ]
              refine wpAnyH_take (i := 21) (v := undef) (List.getElem?_toArray.trans rfl) (by kernel_rfl) (by kernel_rfl) (by kernel_rfl) (fun _ _ _ h => h) (Or.inr ⟨by rfl, rfl⟩) (by assumption) ?_
              simp only [Act.put, List.setIfInBounds_toArray, List.set_cons_zero, List.set_cons_succ]
              refine wpAnyH_take (i := 22) (v := undef) (List.getElem?_toArray.trans rfl) (by kernel_rfl) (by kernel_rfl) (by kernel_rfl) (fun _ _ _ h => h) (Or.inr ⟨by rfl, rfl⟩) (by assumption) ?_
              simp only [Act.put, List.setIfInBounds_toArray, List.set_cons_zero, List.set_cons_succ]
              refine wpAnyH_take (i := 23) (v := undef) (List.getElem?_toArray.trans rfl) (by kernel_rfl) (by kernel_rfl) (by kernel_rfl) (fun _ _ _ h => h) (Or.inr ⟨by rfl, rfl⟩) (by assumption) ?_
              simp only [Act.put, List.setIfInBounds_toArray, List.set_cons_zero, List.set_cons_succ]
              refine wpAnyH_take (i := 24) (v := undef) (List.getElem?_toArray.trans rfl) (by kernel_rfl) (by kernel_rfl) (by kernel_rfl) (fun _ _ _ h => h) (Or.inr ⟨by rfl, rfl⟩) (by assumption) ?_
              simp only [Act.put, List.setIfInBounds_toArray, List.set_cons_zero, List.set_cons_succ]
              refine wpAnyH_take (i := 25) (v := undef) (List.getElem?_toArray.trans rfl) (by kernel_rfl) (by kernel_rfl) (by kernel_rfl) (fun _ _ _ h => h) (Or.inr ⟨by rfl, rfl⟩) (by assumption) ?_
              simp only [Act.put, List.setIfInBounds_toArray, List.set_cons_zero, List.set_cons_succ]
              refine wpAnyH_take (i := 26) (v := ?_) (List.getElem?_toArray.trans rfl) (by kernel_rfl) (by kernel_rfl) (by kernel_rfl) (fun _ _ _ h => h) (Or.inl ⟨by rfl, ?_⟩) (by assumption) ?_
              rotate_left
              · (intro w hSw; obtain ⟨h1, h2, h3, h4, h5⟩ := hSw; go_simp; try (with_reducible rfl))
              simp only [Act.put, List.setIfInBounds_toArray, List.set_cons_zero, List.set_cons_succ]
              refine wpAnyH_done (by kernel_rfl) ?_ _
              go_wp2
              go_ret2
              exact ⟨none, 0, 0, fun _ => default, (by rw [(HF.out HRO).1]; rfl), ownC_nil _ _ _, (by rw [(HF.out HRO).2]; rfl), next HW.out hb2⟩
            | true =>
              rw [hr1] at cK
              have hmem : ∀ k, k < c → 0 ≤ (D k).line ∧ (D k).line ≤ 4096 ∧ (D k).bz.length = 64 := fun k hk => by
                have := rightL_mem hr1 (by rw [← hDl]; exact says_mem D hk)
                have h1 := this.1
                have h2 := this.2.1
                have e : (D k).says.1 = (D k).line := rfl
                exact ⟨h1, by omega, this.2.2⟩
              have hbl2 : Bytes (recsL l) := by rw [← hDl]; exact recsL_bytes (ownC_bytes HOW.out)
              have tq1 := text_eq hbl2 HBR.out
              have tq2 := text_eq (markL_bytes rs) bM
              cases hm1 : meetsG ⟨mk, fi, R⟩ l with
              | true =>
                have HRO : Hid (RO = false) := by rw [HG.out]; unfold refOk; rw [hr1, hm1]; exact rfl
                go_wp2_with fail
                refine wp_region_held_drew (S := fun w' => w'.cell? ⟨w.heap.size, 0, none⟩ = some (.int .i64 (mk : Int)) ∧ w'.cell? ⟨w.heap.size, 1, none⟩ = some (.int .i64 (fi : Int)) ∧ w'.cell? ⟨w.heap.size, 2, none⟩ = some (.int .i64 R) ∧ Sl .u8 w' (some ⟨b, o2, none⟩) (128 * c) cp rs ∧ Sl .u8 w' (some ⟨b, o3, none⟩) 64 mp (mkAt ⟨mk, fi, R⟩ z)) (by kernel_rfl) ⟨c0, c1, c2, sR, sM⟩ (fun hH => ?_)
                refine wpAnyH_take (i := 0) (v := ?_) (List.getElem?_toArray.trans rfl) (by kernel_rfl) (by kernel_rfl) (by kernel_rfl) (fun _ _ _ h => h) (Or.inl ⟨by rfl, ?_⟩) (by assumption) ?_
                rotate_left
                · (intro w hSw; obtain ⟨h1, h2, h3, h4, h5⟩ := hSw; go_simp; try (with_reducible rfl))
                simp only [Act.put, List.setIfInBounds_toArray, List.set_cons_zero, List.set_cons_succ]
                refine wpAnyH_take (i := 1) (v := ?_) (List.getElem?_toArray.trans rfl) (by kernel_rfl) (by kernel_rfl) (by kernel_rfl) (fun _ _ _ h => h) (Or.inl ⟨by rfl, ?_⟩) (by assumption) ?_
                rotate_left
                · (intro w hSw; obtain ⟨h1, h2, h3, h4, h5⟩ := hSw; go_simp; try (with_reducible rfl))
                simp only [Act.put, List.setIfInBounds_toArray, List.set_cons_zero, List.set_cons_succ]
                refine wpAnyH_ready (rs := [2]) (by kernel_rfl) (by simp) ?_
                refine AllReadyH.cons (List.getElem?_toArray.trans rfl) (fun K3 hK3 => ?_) AllReadyH.nil
                go_simp
                refine (cK).mono ?_
                rintro e w2 ⟨rfl, hb2⟩
                have hL2 := (HLR.out.below (w' := wr.drew) (below_drew (Below.refl _ _))).below hb2
                have sR2 := hH.2.2.2.1.below hb2
                have sM2 := hH.2.2.2.2.below hb2
                dsimp only
                refine hK3.out _ _ ⟨hL2.c0, hL2.c1, hL2.c2, sR2, sM2⟩ (fun hHeld3 => ?_)
                clear hK3 K3
                refine wpAnyH_take (i := 3) (v := ?_) (List.getElem?_toArray.trans rfl) (by kernel_rfl) (by kernel_rfl) (by kernel_rfl) (fun _ _ _ h => h) (Or.inl ⟨by rfl, ?_⟩) (by assumption) ?_
                rotate_left
                · (intro w hSw; obtain ⟨h1, h2, h3, h4, h5⟩ := hSw; go_simp; try (with_reducible rfl))
                simp only [Act.put, List.setIfInBounds_toArray, List.set_cons_zero, List.set_cons_succ]
                refine wpAnyH_take (i := 4) (v := ?_) (List.getElem?_toArray.trans rfl) (by kernel_rfl) (by kernel_rfl) (by kernel_rfl) (fun _ _ _ h => h) (Or.inl ⟨by rfl, ?_⟩) (by assumption) ?_
                rotate_left
                · (intro w hSw; obtain ⟨h1, h2, h3, h4, h5⟩ := hSw; go_simp; try (with_reducible rfl))
                simp only [Act.put, List.setIfInBounds_toArray, List.set_cons_zero, List.set_cons_succ]
                refine wpAnyH_take (i := 5) (v := ?_) (List.getElem?_toArray.trans rfl) (by kernel_rfl) (by kernel_rfl) (by kernel_rfl) (fun _ _ _ h => h) (Or.inl ⟨by rfl, ?_⟩) (by assumption) ?_
                rotate_left
                · (intro w hSw; obtain ⟨h1, h2, h3, h4, h5⟩ := hSw; go_simp; try (with_reducible rfl))
                simp only [Act.put, List.setIfInBounds_toArray, List.set_cons_zero, List.set_cons_succ]
                refine wpAnyH_take (i := 6) (v := ?_) (List.getElem?_toArray.trans rfl) (by kernel_rfl) (by kernel_rfl) (by kernel_rfl) (fun _ _ _ h => h) (Or.inl ⟨by rfl, ?_⟩) (by assumption) ?_
                rotate_left
                · (intro w hSw; obtain ⟨h1, h2, h3, h4, h5⟩ := hSw; go_simp; try (with_reducible rfl))
                simp only [Act.put, List.setIfInBounds_toArray, List.set_cons_zero, List.set_cons_succ]
                have hC2 := hC0.below hb2
                have cF := foreign_any mk fi R lo c lc D w2 hg hC2
                rw [hDl, hm1] at cF
                refine wpAnyH_ready (rs := [7]) (by kernel_rfl) (by simp) ?_
                refine AllReadyH.cons (List.getElem?_toArray.trans rfl) (fun K3 hK3 => ?_) AllReadyH.nil
                go_simp
                refine (cF).mono ?_
                rintro e w3 ⟨rfl, hb3⟩
                have hL3 := hL2.below hb3
                have sR3 := sR2.below hb3
                have sM3 := sM2.below hb3
                dsimp only
                refine hK3.out _ _ ⟨hL3.c0, hL3.c1, hL3.c2, sR3, sM3⟩ (fun hHeld3 => ?_)
                clear hK3 K3
                refine wpAnyH_take (i := 8) (v := ?_) (List.getElem?_toArray.trans rfl) (by kernel_rfl) (by kernel_rfl) (by kernel_rfl) (fun _ _ _ h => h) (Or.inl ⟨by rfl, ?_⟩) (by assumption) ?_
                rotate_left
                · (intro w hSw; obtain ⟨h1, h2, h3, h4, h5⟩ := hSw; go_simp; try (with_reducible rfl))
                simp only [Act.put, List.setIfInBounds_toArray, List.set_cons_zero, List.set_cons_succ]
                refine wpAnyH_take (i := 9) (v := ?_) (List.getElem?_toArray.trans rfl) (by kernel_rfl) (by kernel_rfl) (by kernel_rfl) (fun _ _ _ h => h) (Or.inl ⟨by rfl, ?_⟩) (by assumption) ?_
                rotate_left
                · (intro w hSw; obtain ⟨h1, h2, h3, h4, h5⟩ := hSw; go_simp; try (with_reducible rfl))
                simp only [Act.put, List.setIfInBounds_toArray, List.set_cons_zero, List.set_cons_succ]
                refine wpAnyH_take (i := 10) (v := ?_) (List.getElem?_toArray.trans rfl) (by kernel_rfl) (by kernel_rfl) (by kernel_rfl) (fun _ _ _ h => h) (Or.inl ⟨by rfl, ?_⟩) (by assumption) ?_
                rotate_left
                · (intro w hSw; obtain ⟨h1, h2, h3, h4, h5⟩ := hSw; go_simp; try (with_reducible rfl))
                simp only [Act.put, List.setIfInBounds_toArray, List.set_cons_zero, List.set_cons_succ]
                refine wpAnyH_take (i := 11) (v := undef) (List.getElem?_toArray.trans rfl) (by kernel_rfl) (by kernel_rfl) (by kernel_rfl) (fun _ _ _ h => h) (Or.inr ⟨by rfl, rfl⟩) (by assumption) ?_
                simp only [Act.put, List.setIfInBounds_toArray, List.set_cons_zero, List.set_cons_succ]
                refine wpAnyH_take (i := 12) (v := undef) (List.getElem?_toArray.trans rfl) (by kernel_rfl) (by kernel_rfl) (by kernel_rfl) (fun _ _ _ h => h) (Or.inr ⟨by rfl, rfl⟩) (by assumption) ?_
                simp only [Act.put, List.setIfInBounds_toArray, List.set_cons_zero, List.set_cons_succ]
                refine wpAnyH_take (i := 13) (v := undef) (List.getElem?_toArray.trans rfl) (by kernel_rfl) (by kernel_rfl) (by kernel_rfl) (fun _ _ _ h => h) (Or.inr ⟨by rfl, rfl⟩) (by assumption) ?_
                simp only [Act.put, List.setIfInBounds_toArray, List.set_cons_zero, List.set_cons_succ]
                refine wpAnyH_take (i := 14) (v := undef) (List.getElem?_toArray.trans rfl) (by kernel_rfl) (by kernel_rfl) (by kernel_rfl) (fun _ _ _ h => h) (Or.inr ⟨by rfl, rfl⟩) (by assumption) ?_
                simp only [Act.put, List.setIfInBounds_toArray, List.set_cons_zero, List.set_cons_succ]
                refine wpAnyH_take (i := 15) (v := undef) (List.getElem?_toArray.trans rfl) (by kernel_rfl) (by kernel_rfl) (by kernel_rfl) (fun _ _ _ h => h) (Or.inr ⟨by rfl, rfl⟩) (by assumption) ?_
                simp only [Act.put, List.setIfInBounds_toArray, List.set_cons_zero, List.set_cons_succ]
                refine wpAnyH_take (i := 16) (v := undef) (List.getElem?_toArray.trans rfl) (by kernel_rfl) (by kernel_rfl) (by kernel_rfl) (fun _ _ _ h => h) (Or.inr ⟨by rfl, rfl⟩) (by assumption) ?_
                simp only [Act.put, List.setIfInBounds_toArray, List.set_cons_zero, List.set_cons_succ]
                refine wpAnyH_take (i := 17) (v := ?_) (List.getElem?_toArray.trans rfl) (by kernel_rfl) (by kernel_rfl) (by kernel_rfl) (fun _ _ _ h => h) (Or.inl ⟨by rfl, ?_⟩) (by assumption) ?_
                rotate_left
                · (intro w hSw; obtain ⟨h1, h2, h3, h4, h5⟩ := hSw; go_simp; try (with_reducible rfl))
                simp only [Act.put, List.setIfInBounds_toArray, List.set_cons_zero, List.set_cons_succ]
                refine wpAnyH_take (i := 18) (v := ?_) (List.getElem?_toArray.trans rfl) (by kernel_rfl) (by kernel_rfl) (by kernel_rfl) (fun _ _ _ h => h) (Or.inl ⟨by rfl, ?_⟩) (by assumption) ?_
                rotate_left
                · (intro w hSw; obtain ⟨h1, h2, h3, h4, h5⟩ := hSw; go_simp; try (with_reducible rfl))
                simp only [Act.put, List.setIfInBounds_toArray, List.set_cons_zero, List.set_cons_succ]
                refine wpAnyH_take (i := 19) (v := undef) (List.getElem?_toArray.trans rfl) (by kernel_rfl) (by kernel_rfl) (by kernel_rfl) (fun _ _ _ h => h) (Or.inr ⟨by rfl, rfl⟩) (by assumption) ?_
                simp only [Act.put, List.setIfInBounds_toArray, List.set_cons_zero, List.set_cons_succ]
                refine wpAnyH_take (i := 20) (v := undef) (List.getElem?_toArray.trans rfl) (by kernel_rfl) (by kernel_rfl) (by kernel_rfl) (fun _ _ _ h => h) (Or.inr ⟨by rfl, rfl⟩) (by assumption) ?_
                simp only [Act.put, List.setIfInBounds_toArray, List.set_cons_zero, List.set_cons_succ]
                refine wpAnyH_take (i := 21) (v := undef) (List.getElem?_toArray.trans rfl) (by kernel_rfl) (by kernel_rfl) (by kernel_rfl) (fun _ _ _ h => h) (Or.inr ⟨by rfl, rfl⟩) (by assumption) ?_
                simp only [Act.put, List.setIfInBounds_toArray, List.set_cons_zero, List.set_cons_succ]
                refine wpAnyH_take (i := 22) (v := undef) (List.getElem?_toArray.trans rfl) (by kernel_rfl) (by kernel_rfl) (by kernel_rfl) (fun _ _ _ h => h) (Or.inr ⟨by rfl, rfl⟩) (by assumption) ?_
                simp only [Act.put, List.setIfInBounds_toArray, List.set_cons_zero, List.set_cons_succ]
                refine wpAnyH_take (i := 23) (v := undef) (List.getElem?_toArray.trans rfl) (by kernel_rfl) (by kernel_rfl) (by kernel_rfl) (fun _ _ _ h => h) (Or.inr ⟨by rfl, rfl⟩) (by assumption) ?_
                simp only [Act.put, List.setIfInBounds_toArray, List.set_cons_zero, List.set_cons_succ]
                refine wpAnyH_take (i := 24) (v := undef) (List.getElem?_toArray.trans rfl) (by kernel_rfl) (by kernel_rfl) (by kernel_rfl) (fun _ _ _ h => h) (Or.inr ⟨by rfl, rfl⟩) (by assumption) ?_
                simp only [Act.put, List.setIfInBounds_toArray, List.set_cons_zero, List.set_cons_succ]
                refine wpAnyH_take (i := 25) (v := undef) (List.getElem?_toArray.trans rfl) (by kernel_rfl) (by kernel_rfl) (by kernel_rfl) (fun _ _ _ h => h) (Or.inr ⟨by rfl, rfl⟩) (by assumption) ?_
                simp only [Act.put, List.setIfInBounds_toArray, List.set_cons_zero, List.set_cons_succ]
                refine wpAnyH_take (i := 26) (v := ?_) (List.getElem?_toArray.trans rfl) (by kernel_rfl) (by kernel_rfl) (by kernel_rfl) (fun _ _ _ h => h) (Or.inl ⟨by rfl, ?_⟩) (by assumption) ?_
                rotate_left
                · (intro w hSw; obtain ⟨h1, h2, h3, h4, h5⟩ := hSw; go_simp; try (with_reducible rfl))
                simp only [Act.put, List.setIfInBounds_toArray, List.set_cons_zero, List.set_cons_succ]
                refine wpAnyH_done (by kernel_rfl) ?_ _
                go_wp2
                go_ret2
                exact ⟨none, 0, 0, fun _ => default, (by rw [(HF.out HRO).1]; rfl), ownC_nil _ _ _, (by rw [(HF.out HRO).2]; rfl), next (next HW.out hb2) hb3⟩
              | false =>
                by_cases he1 : recsL l = rs
                · have ht1 : ((strOfNums (recsL l)).toList == (strOfNums rs).toList) = true := by rw [tq1]; exact decide_eq_true he1
                  by_cases he2 : markL rs = mkAt ⟨mk, fi, R⟩ z
                  · have ht2 : ((strOfNums (markL rs)).toList == (strOfNums (mkAt ⟨mk, fi, R⟩ z)).toList) = true := by rw [tq2]; exact decide_eq_true he2
                    have HRO : Hid (RO = true) := by rw [HG.out]; unfold refOk; rw [hr1, hm1, decide_eq_true he1, decide_eq_true he2]; exact rfl
                    clear tq1 tq2 he1 he2
                    go_wp2_with fail
                    refine wp_region_held_drew (S := fun w' => w'.cell? ⟨w.heap.size, 0, none⟩ = some (.int .i64 (mk : Int)) ∧ w'.cell? ⟨w.heap.size, 1, none⟩ = some (.int .i64 (fi : Int)) ∧ w'.cell? ⟨w.heap.size, 2, none⟩ = some (.int .i64 R) ∧ Sl .u8 w' (some ⟨b, o2, none⟩) (128 * c) cp rs ∧ Sl .u8 w' (some ⟨b, o3, none⟩) 64 mp (mkAt ⟨mk, fi, R⟩ z)) (by kernel_rfl) ⟨c0, c1, c2, sR, sM⟩ (fun hH => ?_)
                    refine wpAnyH_take (i := 0) (v := ?_) (List.getElem?_toArray.trans rfl) (by kernel_rfl) (by kernel_rfl) (by kernel_rfl) (fun _ _ _ h => h) (Or.inl ⟨by rfl, ?_⟩) (by assumption) ?_
                    rotate_left
                    · (intro w hSw; obtain ⟨h1, h2, h3, h4, h5⟩ := hSw; go_simp; try (with_reducible rfl))
                    simp only [Act.put, List.setIfInBounds_toArray, List.set_cons_zero, List.set_cons_succ]
                    refine wpAnyH_take (i := 1) (v := ?_) (List.getElem?_toArray.trans rfl) (by kernel_rfl) (by kernel_rfl) (by kernel_rfl) (fun _ _ _ h => h) (Or.inl ⟨by rfl, ?_⟩) (by assumption) ?_
                    rotate_left
                    · (intro w hSw; obtain ⟨h1, h2, h3, h4, h5⟩ := hSw; go_simp; try (with_reducible rfl))
                    simp only [Act.put, List.setIfInBounds_toArray, List.set_cons_zero, List.set_cons_succ]
                    refine wpAnyH_ready (rs := [2]) (by kernel_rfl) (by simp) ?_
                    refine AllReadyH.cons (List.getElem?_toArray.trans rfl) (fun K3 hK3 => ?_) AllReadyH.nil
                    go_simp
                    refine (cK).mono ?_
                    rintro e w2 ⟨rfl, hb2⟩
                    have hL2 := (HLR.out.below (w' := wr.drew) (below_drew (Below.refl _ _))).below hb2
                    have sR2 := hH.2.2.2.1.below hb2
                    have sM2 := hH.2.2.2.2.below hb2
                    dsimp only
                    refine hK3.out _ _ ⟨hL2.c0, hL2.c1, hL2.c2, sR2, sM2⟩ (fun hHeld3 => ?_)
                    clear hK3 K3
                    refine wpAnyH_take (i := 3) (v := ?_) (List.getElem?_toArray.trans rfl) (by kernel_rfl) (by kernel_rfl) (by kernel_rfl) (fun _ _ _ h => h) (Or.inl ⟨by rfl, ?_⟩) (by assumption) ?_
                    rotate_left
                    · (intro w hSw; obtain ⟨h1, h2, h3, h4, h5⟩ := hSw; go_simp; try (with_reducible rfl))
                    simp only [Act.put, List.setIfInBounds_toArray, List.set_cons_zero, List.set_cons_succ]
                    refine wpAnyH_take (i := 4) (v := ?_) (List.getElem?_toArray.trans rfl) (by kernel_rfl) (by kernel_rfl) (by kernel_rfl) (fun _ _ _ h => h) (Or.inl ⟨by rfl, ?_⟩) (by assumption) ?_
                    rotate_left
                    · (intro w hSw; obtain ⟨h1, h2, h3, h4, h5⟩ := hSw; go_simp; try (with_reducible rfl))
                    simp only [Act.put, List.setIfInBounds_toArray, List.set_cons_zero, List.set_cons_succ]
                    refine wpAnyH_take (i := 5) (v := ?_) (List.getElem?_toArray.trans rfl) (by kernel_rfl) (by kernel_rfl) (by kernel_rfl) (fun _ _ _ h => h) (Or.inl ⟨by rfl, ?_⟩) (by assumption) ?_
                    rotate_left
                    · (intro w hSw; obtain ⟨h1, h2, h3, h4, h5⟩ := hSw; go_simp; try (with_reducible rfl))
                    simp only [Act.put, List.setIfInBounds_toArray, List.set_cons_zero, List.set_cons_succ]
                    refine wpAnyH_take (i := 6) (v := ?_) (List.getElem?_toArray.trans rfl) (by kernel_rfl) (by kernel_rfl) (by kernel_rfl) (fun _ _ _ h => h) (Or.inl ⟨by rfl, ?_⟩) (by assumption) ?_
                    rotate_left
                    · (intro w hSw; obtain ⟨h1, h2, h3, h4, h5⟩ := hSw; go_simp; try (with_reducible rfl))
                    simp only [Act.put, List.setIfInBounds_toArray, List.set_cons_zero, List.set_cons_succ]
                    have hC2 := hC0.below hb2
                    have cF := foreign_any mk fi R lo c lc D w2 hg hC2
                    rw [hDl, hm1] at cF
                    refine wpAnyH_ready (rs := [7]) (by kernel_rfl) (by simp) ?_
                    refine AllReadyH.cons (List.getElem?_toArray.trans rfl) (fun K3 hK3 => ?_) AllReadyH.nil
                    go_simp
                    refine (cF).mono ?_
                    rintro e w3 ⟨rfl, hb3⟩
                    have hL3 := hL2.below hb3
                    have sR3 := sR2.below hb3
                    have sM3 := sM2.below hb3
                    dsimp only
                    refine hK3.out _ _ ⟨hL3.c0, hL3.c1, hL3.c2, sR3, sM3⟩ (fun hHeld3 => ?_)
                    clear hK3 K3
                    refine wpAnyH_take (i := 8) (v := ?_) (List.getElem?_toArray.trans rfl) (by kernel_rfl) (by kernel_rfl) (by kernel_rfl) (fun _ _ _ h => h) (Or.inl ⟨by rfl, ?_⟩) (by assumption) ?_
                    rotate_left
                    · (intro w hSw; obtain ⟨h1, h2, h3, h4, h5⟩ := hSw; go_simp; try (with_reducible rfl))
                    simp only [Act.put, List.setIfInBounds_toArray, List.set_cons_zero, List.set_cons_succ]
                    refine wpAnyH_take (i := 9) (v := ?_) (List.getElem?_toArray.trans rfl) (by kernel_rfl) (by kernel_rfl) (by kernel_rfl) (fun _ _ _ h => h) (Or.inl ⟨by rfl, ?_⟩) (by assumption) ?_
                    rotate_left
                    · (intro w hSw; obtain ⟨h1, h2, h3, h4, h5⟩ := hSw; go_simp; try (with_reducible rfl))
                    simp only [Act.put, List.setIfInBounds_toArray, List.set_cons_zero, List.set_cons_succ]
                    refine wpAnyH_take (i := 10) (v := ?_) (List.getElem?_toArray.trans rfl) (by kernel_rfl) (by kernel_rfl) (by kernel_rfl) (fun _ _ _ h => h) (Or.inl ⟨by rfl, ?_⟩) (by assumption) ?_
                    rotate_left
                    · (intro w hSw; obtain ⟨h1, h2, h3, h4, h5⟩ := hSw; go_simp; try (with_reducible rfl))
                    simp only [Act.put, List.setIfInBounds_toArray, List.set_cons_zero, List.set_cons_succ]
                    refine wpAnyH_take (i := 11) (v := ?_) (List.getElem?_toArray.trans rfl) (by kernel_rfl) (by kernel_rfl) (by kernel_rfl) (fun _ _ _ h => h) (Or.inl ⟨by rfl, ?_⟩) (by assumption) ?_
                    rotate_left
                    · (intro w hSw; obtain ⟨h1, h2, h3, h4, h5⟩ := hSw; go_simp; try (with_reducible rfl))
                    simp only [Act.put, List.setIfInBounds_toArray, List.set_cons_zero, List.set_cons_succ]
                    refine wpAnyH_take (i := 14) (v := ?_) (List.getElem?_toArray.trans rfl) (by kernel_rfl) (by kernel_rfl) (by kernel_rfl) (fun _ _ _ h => h) (Or.inl ⟨by rfl, ?_⟩) (by assumption) ?_
                    rotate_left
                    · (intro w hSw; obtain ⟨h1, h2, h3, h4, h5⟩ := hSw; go_simp; try (with_reducible rfl))
                    simp only [Act.put, List.setIfInBounds_toArray, List.set_cons_zero, List.set_cons_succ]
                    refine wpAnyH_take (i := 15) (v := ?_) (List.getElem?_toArray.trans rfl) (by kernel_rfl) (by kernel_rfl) (by kernel_rfl) (fun _ _ _ h => h) (Or.inl ⟨by rfl, ?_⟩) (by assumption) ?_
                    rotate_left
                    · (intro w hSw; obtain ⟨h1, h2, h3, h4, h5⟩ := hSw; have t4 := h4.text (P := Tryz.prog) Tryz.underlying22 Tryz.underlying5 Tryz.underlying9; have t5 := h5.text (P := Tryz.prog) Tryz.underlying22 Tryz.underlying5 Tryz.underlying9; go_simp; try (with_reducible rfl))
                    simp only [Act.put, List.setIfInBounds_toArray, List.set_cons_zero, List.set_cons_succ]
                    have cS := records_any lo c lc D w3 (hC2.below hb3) ci hmem
                    rw [hDl] at cS
                    refine wpAnyH_ready (rs := [12]) (by kernel_rfl) (by simp) ?_
                    refine AllReadyH.cons (List.getElem?_toArray.trans rfl) (fun K3 hK3 => ?_) AllReadyH.nil
                    go_simp
                    refine (cS).mono ?_
                    rintro e w4 ⟨ra, rc, rfl, oR, hb4⟩
                    have hL4 := hL3.below hb4
                    have sR4 := sR3.below hb4
                    have sM4 := sM3.below hb4
                    dsimp only
                    refine hK3.out _ _ ⟨hL4.c0, hL4.c1, hL4.c2, sR4, sM4⟩ (fun hHeld3 => ?_)
                    clear hK3 K3
                    refine wpAnyH_ready (rs := [13]) (by kernel_rfl) (by simp) ?_
                    refine AllReadyH.cons (List.getElem?_toArray.trans rfl) (fun K3 hK3 => ?_) AllReadyH.nil
                    have t6 := oR.sl.text (P := Tryz.prog) Tryz.underlying22 Tryz.underlying5 Tryz.underlying9
                    go_simp
                    refine hK3.out _ _ ⟨hL4.c0, hL4.c1, hL4.c2, sR4, sM4⟩ (fun hHeld3 => ?_)
                    clear hK3 K3
                    refine wpAnyH_take (i := 16) (v := ?_) (List.getElem?_toArray.trans rfl) (by kernel_rfl) (by kernel_rfl) (by kernel_rfl) (fun _ _ _ h => h) (Or.inl ⟨by rfl, ?_⟩) (by assumption) ?_
                    rotate_left
                    · (intro w hSw; obtain ⟨h1, h2, h3, h4, h5⟩ := hSw; go_simp; try (with_reducible rfl))
                    simp only [Act.put, List.setIfInBounds_toArray, List.set_cons_zero, List.set_cons_succ]
                    refine wpAnyH_take (i := 17) (v := ?_) (List.getElem?_toArray.trans rfl) (by kernel_rfl) (by kernel_rfl) (by kernel_rfl) (fun _ _ _ h => h) (Or.inl ⟨by rfl, ?_⟩) (by assumption) ?_
                    rotate_left
                    · (intro w hSw; obtain ⟨h1, h2, h3, h4, h5⟩ := hSw; go_simp; try (with_reducible rfl))
                    simp only [Act.put, List.setIfInBounds_toArray, List.set_cons_zero, List.set_cons_succ]
                    refine wpAnyH_take (i := 18) (v := ?_) (List.getElem?_toArray.trans rfl) (by kernel_rfl) (by kernel_rfl) (by kernel_rfl) (fun _ _ _ h => h) (Or.inl ⟨by rfl, ?_⟩) (by assumption) ?_
                    rotate_left
                    · (intro w hSw; obtain ⟨h1, h2, h3, h4, h5⟩ := hSw; go_simp; try (with_reducible rfl))
                    simp only [Act.put, List.setIfInBounds_toArray, List.set_cons_zero, List.set_cons_succ]
                    refine wpAnyH_take (i := 19) (v := ?_) (List.getElem?_toArray.trans rfl) (by kernel_rfl) (by kernel_rfl) (by kernel_rfl) (fun _ _ _ h => h) (Or.inl ⟨by rfl, ?_⟩) (by assumption) ?_
                    rotate_left
                    · (intro w hSw; obtain ⟨h1, h2, h3, h4, h5⟩ := hSw; go_simp; try (with_reducible rfl))
                    simp only [Act.put, List.setIfInBounds_toArray, List.set_cons_zero, List.set_cons_succ]
                    refine wpAnyH_take (i := 20) (v := ?_) (List.getElem?_toArray.trans rfl) (by kernel_rfl) (by kernel_rfl) (by kernel_rfl) (fun _ _ _ h => h) (Or.inl ⟨by rfl, ?_⟩) (by assumption) ?_
                    rotate_left
                    · (intro w hSw; obtain ⟨h1, h2, h3, h4, h5⟩ := hSw; go_simp; try (with_reducible rfl))
                    simp only [Act.put, List.setIfInBounds_toArray, List.set_cons_zero, List.set_cons_succ]
                    refine wpAnyH_take (i := 23) (v := ?_) (List.getElem?_toArray.trans rfl) (by kernel_rfl) (by kernel_rfl) (by kernel_rfl) (fun _ _ _ h => h) (Or.inl ⟨by rfl, ?_⟩) (by assumption) ?_
                    rotate_left
                    · (intro w hSw; obtain ⟨h1, h2, h3, h4, h5⟩ := hSw; go_simp; try (with_reducible rfl))
                    simp only [Act.put, List.setIfInBounds_toArray, List.set_cons_zero, List.set_cons_succ]
                    refine wpAnyH_take (i := 24) (v := ?_) (List.getElem?_toArray.trans rfl) (by kernel_rfl) (by kernel_rfl) (by kernel_rfl) (fun _ _ _ h => h) (Or.inl ⟨by rfl, ?_⟩) (by assumption) ?_
                    rotate_left
                    · (intro w hSw; obtain ⟨h1, h2, h3, h4, h5⟩ := hSw; have t4 := h4.text (P := Tryz.prog) Tryz.underlying22 Tryz.underlying5 Tryz.underlying9; have t5 := h5.text (P := Tryz.prog) Tryz.underlying22 Tryz.underlying5 Tryz.underlying9; go_simp; try (with_reducible rfl))
                    simp only [Act.put, List.setIfInBounds_toArray, List.set_cons_zero, List.set_cons_succ]
                    have cM := refmark_any c _ (128 * c) cp rs w4 sR4 HBR.out (by omega) rfl
                    refine wpAnyH_ready (rs := [21]) (by kernel_rfl) (by simp) ?_
                    refine AllReadyH.cons (List.getElem?_toArray.trans rfl) (fun K3 hK3 => ?_) AllReadyH.nil
                    go_simp
                    refine (cM).mono ?_
                    rintro e w5 ⟨mg, mc, rfl, oM, hb5⟩
                    have hL5 := hL4.below hb5
                    have sR5 := sR4.below hb5
                    have sM5 := sM4.below hb5
                    dsimp only
                    refine hK3.out _ _ ⟨hL5.c0, hL5.c1, hL5.c2, sR5, sM5⟩ (fun hHeld3 => ?_)
                    clear hK3 K3
                    refine wpAnyH_ready (rs := [22]) (by kernel_rfl) (by simp) ?_
                    refine AllReadyH.cons (List.getElem?_toArray.trans rfl) (fun K3 hK3 => ?_) AllReadyH.nil
                    have t7 := oM.sl.text (P := Tryz.prog) Tryz.underlying22 Tryz.underlying5 Tryz.underlying9
                    go_simp
                    refine hK3.out _ _ ⟨hL5.c0, hL5.c1, hL5.c2, sR5, sM5⟩ (fun hHeld3 => ?_)
                    clear hK3 K3
                    refine wpAnyH_take (i := 25) (v := ?_) (List.getElem?_toArray.trans rfl) (by kernel_rfl) (by kernel_rfl) (by kernel_rfl) (fun _ _ _ h => h) (Or.inl ⟨by rfl, ?_⟩) (by assumption) ?_
                    rotate_left
                    · (intro w hSw; obtain ⟨h1, h2, h3, h4, h5⟩ := hSw; go_simp; try (with_reducible rfl))
                    simp only [Act.put, List.setIfInBounds_toArray, List.set_cons_zero, List.set_cons_succ]
                    refine wpAnyH_take (i := 26) (v := ?_) (List.getElem?_toArray.trans rfl) (by kernel_rfl) (by kernel_rfl) (by kernel_rfl) (fun _ _ _ h => h) (Or.inl ⟨by rfl, ?_⟩) (by assumption) ?_
                    rotate_left
                    · (intro w hSw; obtain ⟨h1, h2, h3, h4, h5⟩ := hSw; go_simp; try (with_reducible rfl))
                    simp only [Act.put, List.setIfInBounds_toArray, List.set_cons_zero, List.set_cons_succ]
                    refine wpAnyH_done (by kernel_rfl) ?_ _
                    go_wp2
                    go_ret2
                    exact ⟨lo, c, lc, D, (by rw [(HM.out HRO).1]; rfl), (((((HOW.out.below (w' := wr.drew) (below_drew (Below.refl _ _))).below hb2).below hb3).below hb4).below hb5).mono hsz, (by rw [hDl]; exact (HM.out HRO).2.symm), next (next (next (next HW.out hb2) hb3) hb4) hb5⟩
                  · have ht2 : ((strOfNums (markL rs)).toList == (strOfNums (mkAt ⟨mk, fi, R⟩ z)).toList) = false := by rw [tq2]; exact decide_eq_false he2
                    have HRO : Hid (RO = false) := by rw [HG.out]; unfold refOk; rw [hr1, hm1, decide_eq_true he1, decide_eq_false he2]; exact rfl
                    clear tq1 tq2 he1 he2
                    go_wp2_with fail
                    refine wp_region_held_drew (S := fun w' => w'.cell? ⟨w.heap.size, 0, none⟩ = some (.int .i64 (mk : Int)) ∧ w'.cell? ⟨w.heap.size, 1, none⟩ = some (.int .i64 (fi : Int)) ∧ w'.cell? ⟨w.heap.size, 2, none⟩ = some (.int .i64 R) ∧ Sl .u8 w' (some ⟨b, o2, none⟩) (128 * c) cp rs ∧ Sl .u8 w' (some ⟨b, o3, none⟩) 64 mp (mkAt ⟨mk, fi, R⟩ z)) (by kernel_rfl) ⟨c0, c1, c2, sR, sM⟩ (fun hH => ?_)
                    refine wpAnyH_take (i := 0) (v := ?_) (List.getElem?_toArray.trans rfl) (by kernel_rfl) (by kernel_rfl) (by kernel_rfl) (fun _ _ _ h => h) (Or.inl ⟨by rfl, ?_⟩) (by assumption) ?_
                    rotate_left
                    · (intro w hSw; obtain ⟨h1, h2, h3, h4, h5⟩ := hSw; go_simp; try (with_reducible rfl))
                    simp only [Act.put, List.setIfInBounds_toArray, List.set_cons_zero, List.set_cons_succ]
                    refine wpAnyH_take (i := 1) (v := ?_) (List.getElem?_toArray.trans rfl) (by kernel_rfl) (by kernel_rfl) (by kernel_rfl) (fun _ _ _ h => h) (Or.inl ⟨by rfl, ?_⟩) (by assumption) ?_
                    rotate_left
                    · (intro w hSw; obtain ⟨h1, h2, h3, h4, h5⟩ := hSw; go_simp; try (with_reducible rfl))
                    simp only [Act.put, List.setIfInBounds_toArray, List.set_cons_zero, List.set_cons_succ]
                    refine wpAnyH_ready (rs := [2]) (by kernel_rfl) (by simp) ?_
                    refine AllReadyH.cons (List.getElem?_toArray.trans rfl) (fun K3 hK3 => ?_) AllReadyH.nil
                    go_simp
                    refine (cK).mono ?_
                    rintro e w2 ⟨rfl, hb2⟩
                    have hL2 := (HLR.out.below (w' := wr.drew) (below_drew (Below.refl _ _))).below hb2
                    have sR2 := hH.2.2.2.1.below hb2
                    have sM2 := hH.2.2.2.2.below hb2
                    dsimp only
                    refine hK3.out _ _ ⟨hL2.c0, hL2.c1, hL2.c2, sR2, sM2⟩ (fun hHeld3 => ?_)
                    clear hK3 K3
                    refine wpAnyH_take (i := 3) (v := ?_) (List.getElem?_toArray.trans rfl) (by kernel_rfl) (by kernel_rfl) (by kernel_rfl) (fun _ _ _ h => h) (Or.inl ⟨by rfl, ?_⟩) (by assumption) ?_
                    rotate_left
                    · (intro w hSw; obtain ⟨h1, h2, h3, h4, h5⟩ := hSw; go_simp; try (with_reducible rfl))
                    simp only [Act.put, List.setIfInBounds_toArray, List.set_cons_zero, List.set_cons_succ]
                    refine wpAnyH_take (i := 4) (v := ?_) (List.getElem?_toArray.trans rfl) (by kernel_rfl) (by kernel_rfl) (by kernel_rfl) (fun _ _ _ h => h) (Or.inl ⟨by rfl, ?_⟩) (by assumption) ?_
                    rotate_left
                    · (intro w hSw; obtain ⟨h1, h2, h3, h4, h5⟩ := hSw; go_simp; try (with_reducible rfl))
                    simp only [Act.put, List.setIfInBounds_toArray, List.set_cons_zero, List.set_cons_succ]
                    refine wpAnyH_take (i := 5) (v := ?_) (List.getElem?_toArray.trans rfl) (by kernel_rfl) (by kernel_rfl) (by kernel_rfl) (fun _ _ _ h => h) (Or.inl ⟨by rfl, ?_⟩) (by assumption) ?_
                    rotate_left
                    · (intro w hSw; obtain ⟨h1, h2, h3, h4, h5⟩ := hSw; go_simp; try (with_reducible rfl))
                    simp only [Act.put, List.setIfInBounds_toArray, List.set_cons_zero, List.set_cons_succ]
                    refine wpAnyH_take (i := 6) (v := ?_) (List.getElem?_toArray.trans rfl) (by kernel_rfl) (by kernel_rfl) (by kernel_rfl) (fun _ _ _ h => h) (Or.inl ⟨by rfl, ?_⟩) (by assumption) ?_
                    rotate_left
                    · (intro w hSw; obtain ⟨h1, h2, h3, h4, h5⟩ := hSw; go_simp; try (with_reducible rfl))
                    simp only [Act.put, List.setIfInBounds_toArray, List.set_cons_zero, List.set_cons_succ]
                    have hC2 := hC0.below hb2
                    have cF := foreign_any mk fi R lo c lc D w2 hg hC2
                    rw [hDl, hm1] at cF
                    refine wpAnyH_ready (rs := [7]) (by kernel_rfl) (by simp) ?_
                    refine AllReadyH.cons (List.getElem?_toArray.trans rfl) (fun K3 hK3 => ?_) AllReadyH.nil
                    go_simp
                    refine (cF).mono ?_
                    rintro e w3 ⟨rfl, hb3⟩
                    have hL3 := hL2.below hb3
                    have sR3 := sR2.below hb3
                    have sM3 := sM2.below hb3
                    dsimp only
                    refine hK3.out _ _ ⟨hL3.c0, hL3.c1, hL3.c2, sR3, sM3⟩ (fun hHeld3 => ?_)
                    clear hK3 K3
                    refine wpAnyH_take (i := 8) (v := ?_) (List.getElem?_toArray.trans rfl) (by kernel_rfl) (by kernel_rfl) (by kernel_rfl) (fun _ _ _ h => h) (Or.inl ⟨by rfl, ?_⟩) (by assumption) ?_
                    rotate_left
                    · (intro w hSw; obtain ⟨h1, h2, h3, h4, h5⟩ := hSw; go_simp; try (with_reducible rfl))
                    simp only [Act.put, List.setIfInBounds_toArray, List.set_cons_zero, List.set_cons_succ]
                    refine wpAnyH_take (i := 9) (v := ?_) (List.getElem?_toArray.trans rfl) (by kernel_rfl) (by kernel_rfl) (by kernel_rfl) (fun _ _ _ h => h) (Or.inl ⟨by rfl, ?_⟩) (by assumption) ?_
                    rotate_left
                    · (intro w hSw; obtain ⟨h1, h2, h3, h4, h5⟩ := hSw; go_simp; try (with_reducible rfl))
                    simp only [Act.put, List.setIfInBounds_toArray, List.set_cons_zero, List.set_cons_succ]
                    refine wpAnyH_take (i := 10) (v := ?_) (List.getElem?_toArray.trans rfl) (by kernel_rfl) (by kernel_rfl) (by kernel_rfl) (fun _ _ _ h => h) (Or.inl ⟨by rfl, ?_⟩) (by assumption) ?_
                    rotate_left
                    · (intro w hSw; obtain ⟨h1, h2, h3, h4, h5⟩ := hSw; go_simp; try (with_reducible rfl))
                    simp only [Act.put, List.setIfInBounds_toArray, List.set_cons_zero, List.set_cons_succ]
                    refine wpAnyH_take (i := 11) (v := ?_) (List.getElem?_toArray.trans rfl) (by kernel_rfl) (by kernel_rfl) (by kernel_rfl) (fun _ _ _ h => h) (Or.inl ⟨by rfl, ?_⟩) (by assumption) ?_
                    rotate_left
                    · (intro w hSw; obtain ⟨h1, h2, h3, h4, h5⟩ := hSw; go_simp; try (with_reducible rfl))
                    simp only [Act.put, List.setIfInBounds_toArray, List.set_cons_zero, List.set_cons_succ]
                    refine wpAnyH_take (i := 14) (v := ?_) (List.getElem?_toArray.trans rfl) (by kernel_rfl) (by kernel_rfl) (by kernel_rfl) (fun _ _ _ h => h) (Or.inl ⟨by rfl, ?_⟩) (by assumption) ?_
                    rotate_left
                    · (intro w hSw; obtain ⟨h1, h2, h3, h4, h5⟩ := hSw; go_simp; try (with_reducible rfl))
                    simp only [Act.put, List.setIfInBounds_toArray, List.set_cons_zero, List.set_cons_succ]
                    refine wpAnyH_take (i := 15) (v := ?_) (List.getElem?_toArray.trans rfl) (by kernel_rfl) (by kernel_rfl) (by kernel_rfl) (fun _ _ _ h => h) (Or.inl ⟨by rfl, ?_⟩) (by assumption) ?_
                    rotate_left
                    · (intro w hSw; obtain ⟨h1, h2, h3, h4, h5⟩ := hSw; have t4 := h4.text (P := Tryz.prog) Tryz.underlying22 Tryz.underlying5 Tryz.underlying9; have t5 := h5.text (P := Tryz.prog) Tryz.underlying22 Tryz.underlying5 Tryz.underlying9; go_simp; try (with_reducible rfl))
                    simp only [Act.put, List.setIfInBounds_toArray, List.set_cons_zero, List.set_cons_succ]
                    have cS := records_any lo c lc D w3 (hC2.below hb3) ci hmem
                    rw [hDl] at cS
                    refine wpAnyH_ready (rs := [12]) (by kernel_rfl) (by simp) ?_
                    refine AllReadyH.cons (List.getElem?_toArray.trans rfl) (fun K3 hK3 => ?_) AllReadyH.nil
                    go_simp
                    refine (cS).mono ?_
                    rintro e w4 ⟨ra, rc, rfl, oR, hb4⟩
                    have hL4 := hL3.below hb4
                    have sR4 := sR3.below hb4
                    have sM4 := sM3.below hb4
                    dsimp only
                    refine hK3.out _ _ ⟨hL4.c0, hL4.c1, hL4.c2, sR4, sM4⟩ (fun hHeld3 => ?_)
                    clear hK3 K3
                    refine wpAnyH_ready (rs := [13]) (by kernel_rfl) (by simp) ?_
                    refine AllReadyH.cons (List.getElem?_toArray.trans rfl) (fun K3 hK3 => ?_) AllReadyH.nil
                    have t6 := oR.sl.text (P := Tryz.prog) Tryz.underlying22 Tryz.underlying5 Tryz.underlying9
                    go_simp
                    refine hK3.out _ _ ⟨hL4.c0, hL4.c1, hL4.c2, sR4, sM4⟩ (fun hHeld3 => ?_)
                    clear hK3 K3
                    refine wpAnyH_take (i := 16) (v := ?_) (List.getElem?_toArray.trans rfl) (by kernel_rfl) (by kernel_rfl) (by kernel_rfl) (fun _ _ _ h => h) (Or.inl ⟨by rfl, ?_⟩) (by assumption) ?_
                    rotate_left
                    · (intro w hSw; obtain ⟨h1, h2, h3, h4, h5⟩ := hSw; go_simp; try (with_reducible rfl))
                    simp only [Act.put, List.setIfInBounds_toArray, List.set_cons_zero, List.set_cons_succ]
                    refine wpAnyH_take (i := 17) (v := ?_) (List.getElem?_toArray.trans rfl) (by kernel_rfl) (by kernel_rfl) (by kernel_rfl) (fun _ _ _ h => h) (Or.inl ⟨by rfl, ?_⟩) (by assumption) ?_
                    rotate_left
                    · (intro w hSw; obtain ⟨h1, h2, h3, h4, h5⟩ := hSw; go_simp; try (with_reducible rfl))
                    simp only [Act.put, List.setIfInBounds_toArray, List.set_cons_zero, List.set_cons_succ]
                    refine wpAnyH_take (i := 18) (v := ?_) (List.getElem?_toArray.trans rfl) (by kernel_rfl) (by kernel_rfl) (by kernel_rfl) (fun _ _ _ h => h) (Or.inl ⟨by rfl, ?_⟩) (by assumption) ?_
                    rotate_left
                    · (intro w hSw; obtain ⟨h1, h2, h3, h4, h5⟩ := hSw; go_simp; try (with_reducible rfl))
                    simp only [Act.put, List.setIfInBounds_toArray, List.set_cons_zero, List.set_cons_succ]
                    refine wpAnyH_take (i := 19) (v := ?_) (List.getElem?_toArray.trans rfl) (by kernel_rfl) (by kernel_rfl) (by kernel_rfl) (fun _ _ _ h => h) (Or.inl ⟨by rfl, ?_⟩) (by assumption) ?_
                    rotate_left
                    · (intro w hSw; obtain ⟨h1, h2, h3, h4, h5⟩ := hSw; go_simp; try (with_reducible rfl))
                    simp only [Act.put, List.setIfInBounds_toArray, List.set_cons_zero, List.set_cons_succ]
                    refine wpAnyH_take (i := 20) (v := ?_) (List.getElem?_toArray.trans rfl) (by kernel_rfl) (by kernel_rfl) (by kernel_rfl) (fun _ _ _ h => h) (Or.inl ⟨by rfl, ?_⟩) (by assumption) ?_
                    rotate_left
                    · (intro w hSw; obtain ⟨h1, h2, h3, h4, h5⟩ := hSw; go_simp; try (with_reducible rfl))
                    simp only [Act.put, List.setIfInBounds_toArray, List.set_cons_zero, List.set_cons_succ]
                    refine wpAnyH_take (i := 23) (v := ?_) (List.getElem?_toArray.trans rfl) (by kernel_rfl) (by kernel_rfl) (by kernel_rfl) (fun _ _ _ h => h) (Or.inl ⟨by rfl, ?_⟩) (by assumption) ?_
                    rotate_left
                    · (intro w hSw; obtain ⟨h1, h2, h3, h4, h5⟩ := hSw; go_simp; try (with_reducible rfl))
                    simp only [Act.put, List.setIfInBounds_toArray, List.set_cons_zero, List.set_cons_succ]
                    refine wpAnyH_take (i := 24) (v := ?_) (List.getElem?_toArray.trans rfl) (by kernel_rfl) (by kernel_rfl) (by kernel_rfl) (fun _ _ _ h => h) (Or.inl ⟨by rfl, ?_⟩) (by assumption) ?_
                    rotate_left
                    · (intro w hSw; obtain ⟨h1, h2, h3, h4, h5⟩ := hSw; have t4 := h4.text (P := Tryz.prog) Tryz.underlying22 Tryz.underlying5 Tryz.underlying9; have t5 := h5.text (P := Tryz.prog) Tryz.underlying22 Tryz.underlying5 Tryz.underlying9; go_simp; try (with_reducible rfl))
                    simp only [Act.put, List.setIfInBounds_toArray, List.set_cons_zero, List.set_cons_succ]
                    have cM := refmark_any c _ (128 * c) cp rs w4 sR4 HBR.out (by omega) rfl
                    refine wpAnyH_ready (rs := [21]) (by kernel_rfl) (by simp) ?_
                    refine AllReadyH.cons (List.getElem?_toArray.trans rfl) (fun K3 hK3 => ?_) AllReadyH.nil
                    go_simp
                    refine (cM).mono ?_
                    rintro e w5 ⟨mg, mc, rfl, oM, hb5⟩
                    have hL5 := hL4.below hb5
                    have sR5 := sR4.below hb5
                    have sM5 := sM4.below hb5
                    dsimp only
                    refine hK3.out _ _ ⟨hL5.c0, hL5.c1, hL5.c2, sR5, sM5⟩ (fun hHeld3 => ?_)
                    clear hK3 K3
                    refine wpAnyH_ready (rs := [22]) (by kernel_rfl) (by simp) ?_
                    refine AllReadyH.cons (List.getElem?_toArray.trans rfl) (fun K3 hK3 => ?_) AllReadyH.nil
                    have t7 := oM.sl.text (P := Tryz.prog) Tryz.underlying22 Tryz.underlying5 Tryz.underlying9
                    go_simp
                    refine hK3.out _ _ ⟨hL5.c0, hL5.c1, hL5.c2, sR5, sM5⟩ (fun hHeld3 => ?_)
                    clear hK3 K3
                    refine wpAnyH_take (i := 25) (v := ?_) (List.getElem?_toArray.trans rfl) (by kernel_rfl) (by kernel_rfl) (by kernel_rfl) (fun _ _ _ h => h) (Or.inl ⟨by rfl, ?_⟩) (by assumption) ?_
                    rotate_left
                    · (intro w hSw; obtain ⟨h1, h2, h3, h4, h5⟩ := hSw; go_simp; try (with_reducible rfl))
                    simp only [Act.put, List.setIfInBounds_toArray, List.set_cons_zero, List.set_cons_succ]
                    refine wpAnyH_take (i := 26) (v := ?_) (List.getElem?_toArray.trans rfl) (by kernel_rfl) (by kernel_rfl) (by kernel_rfl) (fun _ _ _ h => h) (Or.inl ⟨by rfl, ?_⟩) (by assumption) ?_
                    rotate_left
                    · (intro w hSw; obtain ⟨h1, h2, h3, h4, h5⟩ := hSw; go_simp; try (with_reducible rfl))
                    simp only [Act.put, List.setIfInBounds_toArray, List.set_cons_zero, List.set_cons_succ]
                    refine wpAnyH_done (by kernel_rfl) ?_ _
                    go_wp2
                    go_ret2
                    exact ⟨none, 0, 0, fun _ => default, (by rw [(HF.out HRO).1]; rfl), ownC_nil _ _ _, (by rw [(HF.out HRO).2]; rfl), next (next (next (next HW.out hb2) hb3) hb4) hb5⟩
                · have ht1 : ((strOfNums (recsL l)).toList == (strOfNums rs).toList) = false := by rw [tq1]; exact decide_eq_false he1
                  have HRO : Hid (RO = false) := by rw [HG.out]; unfold refOk; rw [hr1, hm1, decide_eq_false he1]; exact rfl
                  clear tq1 tq2 he1
                  go_wp2_with fail
                  refine wp_region_held_drew (S := fun w' => w'.cell? ⟨w.heap.size, 0, none⟩ = some (.int .i64 (mk : Int)) ∧ w'.cell? ⟨w.heap.size, 1, none⟩ = some (.int .i64 (fi : Int)) ∧ w'.cell? ⟨w.heap.size, 2, none⟩ = some (.int .i64 R) ∧ Sl .u8 w' (some ⟨b, o2, none⟩) (128 * c) cp rs ∧ Sl .u8 w' (some ⟨b, o3, none⟩) 64 mp (mkAt ⟨mk, fi, R⟩ z)) (by kernel_rfl) ⟨c0, c1, c2, sR, sM⟩ (fun hH => ?_)
                  refine wpAnyH_take (i := 0) (v := ?_) (List.getElem?_toArray.trans rfl) (by kernel_rfl) (by kernel_rfl) (by kernel_rfl) (fun _ _ _ h => h) (Or.inl ⟨by rfl, ?_⟩) (by assumption) ?_
                  rotate_left
                  · (intro w hSw; obtain ⟨h1, h2, h3, h4, h5⟩ := hSw; go_simp; try (with_reducible rfl))
                  simp only [Act.put, List.setIfInBounds_toArray, List.set_cons_zero, List.set_cons_succ]
                  refine wpAnyH_take (i := 1) (v := ?_) (List.getElem?_toArray.trans rfl) (by kernel_rfl) (by kernel_rfl) (by kernel_rfl) (fun _ _ _ h => h) (Or.inl ⟨by rfl, ?_⟩) (by assumption) ?_
                  rotate_left
                  · (intro w hSw; obtain ⟨h1, h2, h3, h4, h5⟩ := hSw; go_simp; try (with_reducible rfl))
                  simp only [Act.put, List.setIfInBounds_toArray, List.set_cons_zero, List.set_cons_succ]
                  refine wpAnyH_ready (rs := [2]) (by kernel_rfl) (by simp) ?_
                  refine AllReadyH.cons (List.getElem?_toArray.trans rfl) (fun K3 hK3 => ?_) AllReadyH.nil
                  go_simp
                  refine (cK).mono ?_
                  rintro e w2 ⟨rfl, hb2⟩
                  have hL2 := (HLR.out.below (w' := wr.drew) (below_drew (Below.refl _ _))).below hb2
                  have sR2 := hH.2.2.2.1.below hb2
                  have sM2 := hH.2.2.2.2.below hb2
                  dsimp only
                  refine hK3.out _ _ ⟨hL2.c0, hL2.c1, hL2.c2, sR2, sM2⟩ (fun hHeld3 => ?_)
                  clear hK3 K3
                  refine wpAnyH_take (i := 3) (v := ?_) (List.getElem?_toArray.trans rfl) (by kernel_rfl) (by kernel_rfl) (by kernel_rfl) (fun _ _ _ h => h) (Or.inl ⟨by rfl, ?_⟩) (by assumption) ?_
                  rotate_left
                  · (intro w hSw; obtain ⟨h1, h2, h3, h4, h5⟩ := hSw; go_simp; try (with_reducible rfl))
                  simp only [Act.put, List.setIfInBounds_toArray, List.set_cons_zero, List.set_cons_succ]
                  refine wpAnyH_take (i := 4) (v := ?_) (List.getElem?_toArray.trans rfl) (by kernel_rfl) (by kernel_rfl) (by kernel_rfl) (fun _ _ _ h => h) (Or.inl ⟨by rfl, ?_⟩) (by assumption) ?_
                  rotate_left
                  · (intro w hSw; obtain ⟨h1, h2, h3, h4, h5⟩ := hSw; go_simp; try (with_reducible rfl))
                  simp only [Act.put, List.setIfInBounds_toArray, List.set_cons_zero, List.set_cons_succ]
                  refine wpAnyH_take (i := 5) (v := ?_) (List.getElem?_toArray.trans rfl) (by kernel_rfl) (by kernel_rfl) (by kernel_rfl) (fun _ _ _ h => h) (Or.inl ⟨by rfl, ?_⟩) (by assumption) ?_
                  rotate_left
                  · (intro w hSw; obtain ⟨h1, h2, h3, h4, h5⟩ := hSw; go_simp; try (with_reducible rfl))
                  simp only [Act.put, List.setIfInBounds_toArray, List.set_cons_zero, List.set_cons_succ]
                  refine wpAnyH_take (i := 6) (v := ?_) (List.getElem?_toArray.trans rfl) (by kernel_rfl) (by kernel_rfl) (by kernel_rfl) (fun _ _ _ h => h) (Or.inl ⟨by rfl, ?_⟩) (by assumption) ?_
                  rotate_left
                  · (intro w hSw; obtain ⟨h1, h2, h3, h4, h5⟩ := hSw; go_simp; try (with_reducible rfl))
                  simp only [Act.put, List.setIfInBounds_toArray, List.set_cons_zero, List.set_cons_succ]
                  have hC2 := hC0.below hb2
                  have cF := foreign_any mk fi R lo c lc D w2 hg hC2
                  rw [hDl, hm1] at cF
                  refine wpAnyH_ready (rs := [7]) (by kernel_rfl) (by simp) ?_
                  refine AllReadyH.cons (List.getElem?_toArray.trans rfl) (fun K3 hK3 => ?_) AllReadyH.nil
                  go_simp
                  refine (cF).mono ?_
                  rintro e w3 ⟨rfl, hb3⟩
                  have hL3 := hL2.below hb3
                  have sR3 := sR2.below hb3
                  have sM3 := sM2.below hb3
                  dsimp only
                  refine hK3.out _ _ ⟨hL3.c0, hL3.c1, hL3.c2, sR3, sM3⟩ (fun hHeld3 => ?_)
                  clear hK3 K3
                  refine wpAnyH_take (i := 8) (v := ?_) (List.getElem?_toArray.trans rfl) (by kernel_rfl) (by kernel_rfl) (by kernel_rfl) (fun _ _ _ h => h) (Or.inl ⟨by rfl, ?_⟩) (by assumption) ?_
                  rotate_left
                  · (intro w hSw; obtain ⟨h1, h2, h3, h4, h5⟩ := hSw; go_simp; try (with_reducible rfl))
                  simp only [Act.put, List.setIfInBounds_toArray, List.set_cons_zero, List.set_cons_succ]
                  refine wpAnyH_take (i := 9) (v := ?_) (List.getElem?_toArray.trans rfl) (by kernel_rfl) (by kernel_rfl) (by kernel_rfl) (fun _ _ _ h => h) (Or.inl ⟨by rfl, ?_⟩) (by assumption) ?_
                  rotate_left
                  · (intro w hSw; obtain ⟨h1, h2, h3, h4, h5⟩ := hSw; go_simp; try (with_reducible rfl))
                  simp only [Act.put, List.setIfInBounds_toArray, List.set_cons_zero, List.set_cons_succ]
                  refine wpAnyH_take (i := 10) (v := ?_) (List.getElem?_toArray.trans rfl) (by kernel_rfl) (by kernel_rfl) (by kernel_rfl) (fun _ _ _ h => h) (Or.inl ⟨by rfl, ?_⟩) (by assumption) ?_
                  rotate_left
                  · (intro w hSw; obtain ⟨h1, h2, h3, h4, h5⟩ := hSw; go_simp; try (with_reducible rfl))
                  simp only [Act.put, List.setIfInBounds_toArray, List.set_cons_zero, List.set_cons_succ]
                  refine wpAnyH_take (i := 11) (v := ?_) (List.getElem?_toArray.trans rfl) (by kernel_rfl) (by kernel_rfl) (by kernel_rfl) (fun _ _ _ h => h) (Or.inl ⟨by rfl, ?_⟩) (by assumption) ?_
                  rotate_left
                  · (intro w hSw; obtain ⟨h1, h2, h3, h4, h5⟩ := hSw; go_simp; try (with_reducible rfl))
                  simp only [Act.put, List.setIfInBounds_toArray, List.set_cons_zero, List.set_cons_succ]
                  refine wpAnyH_take (i := 14) (v := ?_) (List.getElem?_toArray.trans rfl) (by kernel_rfl) (by kernel_rfl) (by kernel_rfl) (fun _ _ _ h => h) (Or.inl ⟨by rfl, ?_⟩) (by assumption) ?_
                  rotate_left
                  · (intro w hSw; obtain ⟨h1, h2, h3, h4, h5⟩ := hSw; go_simp; try (with_reducible rfl))
                  simp only [Act.put, List.setIfInBounds_toArray, List.set_cons_zero, List.set_cons_succ]
                  refine wpAnyH_take (i := 15) (v := ?_) (List.getElem?_toArray.trans rfl) (by kernel_rfl) (by kernel_rfl) (by kernel_rfl) (fun _ _ _ h => h) (Or.inl ⟨by rfl, ?_⟩) (by assumption) ?_
                  rotate_left
                  · (intro w hSw; obtain ⟨h1, h2, h3, h4, h5⟩ := hSw; have t4 := h4.text (P := Tryz.prog) Tryz.underlying22 Tryz.underlying5 Tryz.underlying9; have t5 := h5.text (P := Tryz.prog) Tryz.underlying22 Tryz.underlying5 Tryz.underlying9; go_simp; try (with_reducible rfl))
                  simp only [Act.put, List.setIfInBounds_toArray, List.set_cons_zero, List.set_cons_succ]
                  have cS := records_any lo c lc D w3 (hC2.below hb3) ci hmem
                  rw [hDl] at cS
                  refine wpAnyH_ready (rs := [12]) (by kernel_rfl) (by simp) ?_
                  refine AllReadyH.cons (List.getElem?_toArray.trans rfl) (fun K3 hK3 => ?_) AllReadyH.nil
                  go_simp
                  refine (cS).mono ?_
                  rintro e w4 ⟨ra, rc, rfl, oR, hb4⟩
                  have hL4 := hL3.below hb4
                  have sR4 := sR3.below hb4
                  have sM4 := sM3.below hb4
                  dsimp only
                  refine hK3.out _ _ ⟨hL4.c0, hL4.c1, hL4.c2, sR4, sM4⟩ (fun hHeld3 => ?_)
                  clear hK3 K3
                  refine wpAnyH_ready (rs := [13]) (by kernel_rfl) (by simp) ?_
                  refine AllReadyH.cons (List.getElem?_toArray.trans rfl) (fun K3 hK3 => ?_) AllReadyH.nil
                  have t6 := oR.sl.text (P := Tryz.prog) Tryz.underlying22 Tryz.underlying5 Tryz.underlying9
                  go_simp
                  refine hK3.out _ _ ⟨hL4.c0, hL4.c1, hL4.c2, sR4, sM4⟩ (fun hHeld3 => ?_)
                  clear hK3 K3
                  refine wpAnyH_take (i := 16) (v := ?_) (List.getElem?_toArray.trans rfl) (by kernel_rfl) (by kernel_rfl) (by kernel_rfl) (fun _ _ _ h => h) (Or.inl ⟨by rfl, ?_⟩) (by assumption) ?_
                  rotate_left
                  · (intro w hSw; obtain ⟨h1, h2, h3, h4, h5⟩ := hSw; go_simp; try (with_reducible rfl))
                  simp only [Act.put, List.setIfInBounds_toArray, List.set_cons_zero, List.set_cons_succ]
                  refine wpAnyH_take (i := 17) (v := ?_) (List.getElem?_toArray.trans rfl) (by kernel_rfl) (by kernel_rfl) (by kernel_rfl) (fun _ _ _ h => h) (Or.inl ⟨by rfl, ?_⟩) (by assumption) ?_
                  rotate_left
                  · (intro w hSw; obtain ⟨h1, h2, h3, h4, h5⟩ := hSw; go_simp; try (with_reducible rfl))
                  simp only [Act.put, List.setIfInBounds_toArray, List.set_cons_zero, List.set_cons_succ]
                  refine wpAnyH_take (i := 18) (v := ?_) (List.getElem?_toArray.trans rfl) (by kernel_rfl) (by kernel_rfl) (by kernel_rfl) (fun _ _ _ h => h) (Or.inl ⟨by rfl, ?_⟩) (by assumption) ?_
                  rotate_left
                  · (intro w hSw; obtain ⟨h1, h2, h3, h4, h5⟩ := hSw; go_simp; try (with_reducible rfl))
                  simp only [Act.put, List.setIfInBounds_toArray, List.set_cons_zero, List.set_cons_succ]
                  refine wpAnyH_take (i := 19) (v := undef) (List.getElem?_toArray.trans rfl) (by kernel_rfl) (by kernel_rfl) (by kernel_rfl) (fun _ _ _ h => h) (Or.inr ⟨by rfl, rfl⟩) (by assumption) ?_
                  simp only [Act.put, List.setIfInBounds_toArray, List.set_cons_zero, List.set_cons_succ]
                  refine wpAnyH_take (i := 20) (v := undef) (List.getElem?_toArray.trans rfl) (by kernel_rfl) (by kernel_rfl) (by kernel_rfl) (fun _ _ _ h => h) (Or.inr ⟨by rfl, rfl⟩) (by assumption) ?_
                  simp only [Act.put, List.setIfInBounds_toArray, List.set_cons_zero, List.set_cons_succ]
                  refine wpAnyH_take (i := 21) (v := undef) (List.getElem?_toArray.trans rfl) (by kernel_rfl) (by kernel_rfl) (by kernel_rfl) (fun _ _ _ h => h) (Or.inr ⟨by rfl, rfl⟩) (by assumption) ?_
                  simp only [Act.put, List.setIfInBounds_toArray, List.set_cons_zero, List.set_cons_succ]
                  refine wpAnyH_take (i := 22) (v := undef) (List.getElem?_toArray.trans rfl) (by kernel_rfl) (by kernel_rfl) (by kernel_rfl) (fun _ _ _ h => h) (Or.inr ⟨by rfl, rfl⟩) (by assumption) ?_
                  simp only [Act.put, List.setIfInBounds_toArray, List.set_cons_zero, List.set_cons_succ]
                  refine wpAnyH_take (i := 23) (v := undef) (List.getElem?_toArray.trans rfl) (by kernel_rfl) (by kernel_rfl) (by kernel_rfl) (fun _ _ _ h => h) (Or.inr ⟨by rfl, rfl⟩) (by assumption) ?_
                  simp only [Act.put, List.setIfInBounds_toArray, List.set_cons_zero, List.set_cons_succ]
                  refine wpAnyH_take (i := 24) (v := undef) (List.getElem?_toArray.trans rfl) (by kernel_rfl) (by kernel_rfl) (by kernel_rfl) (fun _ _ _ h => h) (Or.inr ⟨by rfl, rfl⟩) (by assumption) ?_
                  simp only [Act.put, List.setIfInBounds_toArray, List.set_cons_zero, List.set_cons_succ]
                  refine wpAnyH_take (i := 25) (v := undef) (List.getElem?_toArray.trans rfl) (by kernel_rfl) (by kernel_rfl) (by kernel_rfl) (fun _ _ _ h => h) (Or.inr ⟨by rfl, rfl⟩) (by assumption) ?_
                  simp only [Act.put, List.setIfInBounds_toArray, List.set_cons_zero, List.set_cons_succ]
                  refine wpAnyH_take (i := 26) (v := ?_) (List.getElem?_toArray.trans rfl) (by kernel_rfl) (by kernel_rfl) (by kernel_rfl) (fun _ _ _ h => h) (Or.inl ⟨by rfl, ?_⟩) (by assumption) ?_
                  rotate_left
                  · (intro w hSw; obtain ⟨h1, h2, h3, h4, h5⟩ := hSw; go_simp; try (with_reducible rfl))
                  simp only [Act.put, List.setIfInBounds_toArray, List.set_cons_zero, List.set_cons_succ]
                  refine wpAnyH_done (by kernel_rfl) ?_ _
                  go_wp2
                  go_ret2
                  exact ⟨none, 0, 0, fun _ => default, (by rw [(HF.out HRO).1]; rfl), ownC_nil _ _ _, (by rw [(HF.out HRO).2]; rfl), next (next (next HW.out hb2) hb3) hb4⟩
      · have hr' : R < getN (mkAt ⟨mk, fi, R⟩ z) 0 := by omega
        have HR := hid (ref_high HI.out hz hr')
        obtain ⟨Y, hY⟩ : ∃ Y, getN (mkAt ⟨mk, fi, R⟩ z) 0 = Y := ⟨_, rfl⟩
        rw [hY] at hlo y01 hr hr'
        go_enter Tryz.func39, Tryz.ntmps39
        go_wp2_with (first
          | (go_at_call 32; with_reducible refine cR.mono ?_; rintro e w1 ⟨rfl, hb1⟩; have sM1 := sM.below hb1; have hL1 := hL.below hb1; obtain ⟨c0, c1, c2⟩ := And.intro hL1.c0 (And.intro hL1.c1 hL1.c2); have cZ := refzero_any _ 64 (cap - 64 * mk) _ w1 sM1 n64; rw [hz] at cZ; have cG := refget_any _ 64 (cap - 64 * mk) _ 0 w1 sM1 bM n64; rw [hY] at cG)
          | (go_at_call 60; with_reducible refine cZ.mono ?_; rintro e w' ⟨rfl, rfl⟩)
          | (go_at_call 61; with_reducible refine cG.mono ?_; rintro e w' ⟨rfl, rfl⟩))
        go_ret2
        exact ⟨none, 0, 0, fun _ => default, (by rw [HR.out.1]; rfl), ownC_nil _ _ _, (by rw [HR.out.2]; rfl), next hb hb1⟩
theorem refread_any (M F R : Int) (ao : Option Addr) (n cap : Nat) (z : List Int) (w : World) (hg : (Lg.mk M F R).Ok) (hs : Sl .u8 w ao n cap z) (hby : Bytes z) (hcap : cap ≤ 9223372036854775807) :
    Calls Tryz.prog 39 #[.agg #[.int .i64 M, .int .i64 F, .int .i64 R], .slice ao n cap] w fun e w' => ∃ lo k lc D, e = .returned (.tuple #[.slice lo k lc, .int .i64 (readE ⟨M, F, R⟩ z)]) ∧ OwnC w.heap.size w' lo k lc D ∧ saysN D k = readL ⟨M, F, R⟩ z ∧ Below w.heap.size w w' := by
  cases h : imgOk ⟨M, F, R⟩ z with
  | false =>
    rw [(read_arg h).1, (read_arg h).2]
    exact (refread_refused M F R ao n cap z w hg hs (by have := hs.room; omega) h).mono fun e w' ⟨h1, h2⟩ => ⟨none, 0, 0, fun _ => default, h1, ownC_nil _ _ _, rfl, h2⟩
  | true => exact refread_taken M F R ao n cap z w hg hs hby hcap h
end Go.Proofs.YtgiippbjieecmaaGreat
