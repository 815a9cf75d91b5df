/- 'TreeDown' walked where there is a tree and a page of it. -/
import Derived.Test.YthkloknongkpdaaTreeReadsWalk
import Derived.Test.YthkloknongkpdaaDownM
import Derived.BigQuiet
namespace Go.Proofs.Ythkloknongkpdaa
set_option maxRecDepth 100000
open Go.RowKit
set_option linter.unusedVariables false
set_option linter.unusedSimpArgs false
set_option maxRecDepth 100000

theorem Sl.nodeAt {k : IntKind} {w : World} {b off n cap : Nat} {zs : List Int} (h : Sl k w (some ⟨b, off, none⟩) n cap zs) (i m : Nat) (hi : i + m ≤ n) : Sl k w (some ⟨b, off + i, none⟩) m (cap - i) ((zs.drop i).take m) := by
  have hl := h.len
  have hr := h.room
  refine ⟨by simp; omega, by omega, (by intro e; cases e), fun _ => ?_⟩
  obtain ⟨b', off', e, hlt, hc⟩ := h.here (by omega)
  cases e
  refine ⟨b, off + i, rfl, hlt, fun t ht => ?_⟩
  rw [Nat.add_assoc, hc (i + t) (by omega)]
  simp [List.getD, ht]
set_option maxHeartbeats 4000000 in
theorem down_in (w : World) (P : Int) (R : Nat) (ao : Option Addr) (n cap : Nat) (l : List Blk) (h : Bs w ao n cap l) (hr : RightX P l) (hm : RoomX R l) (p : Int) (hp : Rg p) (h0 : 0 ≤ p) (h1 : p < P) :
    Calls Try.prog 7 #[.int .i64 P, .int .i64 (R : Int), .slice ao n cap, .int .i64 p] w fun e w' => e = .returned (.bool true) ∧ Below w.heap.size w w' := by
  have hl := h.len
  have hn64 := hr.n64
  have hn : n ≤ 64 := by omega
  have c0 := smallX_any w
  have h3 : ¬ (300 < (n : Int)) := by omega
  obtain ⟨e, he, hx⟩ := hr.one h0 h1
  have cW := fun w' (hb : Below w.heap.size w w') => twrite_bs P R ao n cap l w' (h.below hb) (by omega)
  have hZ : wtL P R l = ofL (trW R l) := (wt_ok hr hm).2
  have hZl := wt_len hr hm
  have hZr := rd_wt hr hm
  have hfd : fdX P (wtL P R l) p = ba l e ∧ fdXB P (wtL P R l) p = true := by
    unfold fdX fdXB
    rw [hZr.2, fn_at hr he hx]
    exact ⟨rfl, rfl⟩
  have hR13 : R ≤ 13 := by have := hm.2; omega
  have hR1 := (hm.nodes hr).1
  have hR2 := (hm.nodes hr).2.1
  have hZb : Bytes (wtL P R l) := by rw [hZ]; exact ofL_bytes _
  have cD := fun (zo : Option Addr) (zc : Nat) (w' : World) (hS : Sl .u8 w' zo (128 * R) zc (wtL P R l)) => tfind_sl P zo (128 * R) zc _ p hp w' hS hZb (by omega)
  rw [hfd.1, hfd.2] at cD
  rw [(wt_ok hr hm).1] at cW
  have HND : Hid (∀ j, j ≤ hgt n → nmN n j + wyN e j < R ∧ ((wtL P R l).drop (128 * (nmN n j + wyN e j))).take 128 = ofL (ndW l j (wyN e j)) ∧ okL (ndW l j (wyN e j)) = true) := hid (fun j hj => by
    rw [← hl] at hj ⊢
    have hi := way_in he j
    have a1 := (tr_at (by omega) hj hi).1
    have hR1' : (trL l).length ≤ R := by simpa using hR1
    have := hgt_le l.length
    have a2 := lvC_10 (n := l.length) (by omega) j
    refine ⟨by omega, by rw [hZ]; exact node_bytes (by omega) hj hi, List.all_eq_true.2 (node_fits hr j _ (by omega) (by omega))⟩)
  have HWW : Hid (∀ j, ∃ c : Nat, 1 ≤ c ∧ c ≤ 7 ∧ wyK e j < c ∧ (psN l j (wyN e j)).length = c ∧ (ndW l j (wyN e j)).getD 0 0 = 2 * (c : Int) + (if j = 0 then 1 else 0) ∧ (∀ t, t < c → (ndW l j (wyN e j)).getD (1 + 2 * t) 0 = ((psN l j (wyN e j)).getD t (0, 0)).1 ∧ (ndW l j (wyN e j)).getD (2 + 2 * t) 0 = ((psN l j (wyN e j)).getD t (0, 0)).2)) := hid (fun j => way_words he hn64 j)
  have HLA : Hid (∀ j k, k < (psN l j (wyN e j)).length → (((psN l j (wyN e j)).getD k (0, 0)).1 ≤ p ↔ k ≤ wyK e j)) := hid (fun j k hk => wy_last hr he hx j hk)
  have HST : Hid (∀ j, ((psN l (j + 1) (wyN e (j + 1))).getD (wyK e (j + 1)) (0, 0)).2 = ((lvB l.length (j + 1) + wyN e j : Nat) : Int)) := hid (fun j => wy_step he j)
  have HEN := hid (wy_end he)
  have HTP : Hid (nmN n (hgt n) + wyN e (hgt n) = 0) := hid (way_top (by omega) (by omega))
  have HNX : Hid (∀ j, j + 1 ≤ hgt n → lvB l.length (j + 1) + wyN e j = nmN n j + wyN e j) := hid (fun j hj => by rw [← hl] at hj ⊢; exact way_next he hn64 hj)
  have hbx := hr.ext (ba_mem he)
  have hg2 := hgt_le n
  have hZl' : (wtL P R l).length = 128 * R := by simpa using hZl
  generalize wtL P R l = Z at *
  obtain ⟨x, hxe⟩ : ∃ x, ba l e = x := ⟨_, rfl⟩
  rw [hxe] at cD hx hbx HEN
  obtain ⟨xa, xs, xu⟩ := x
  simp only at cD hbx
  have hx1 : xa ≤ p := hx.1
  have hx2 : p < xa + xs := hx.2
  have d0 : ¬ (p < 0) := by omega
  have d1 : ¬ (P ≤ p) := by omega
  clear h hr hm hZ hZl hZr hfd hx hxe
  go_enter Try.func7, Try.ntmps7
  go_wp2_with (first
    | (go_at_call 9; with_reducible refine c0.mono ?_; rintro e w1 ⟨rfl, hb1⟩)
    | (go_at_call 18; with_reducible refine (cW _ hb1).mono ?_; rintro e w2 ⟨zo, mz, zc, rfl, hoz, hb2⟩; obtain rfl : mz = 128 * R := (by have := hoz.len; omega); have b2 := next hb1 hb2)
    | (go_at_call 23; with_reducible refine (cD _ _ _ hoz.sl).mono ?_; rintro e w3 ⟨rfl, hb3⟩; have hb3a := nxA hb3 (.cells #[.int .i64 xa, .int .i64 xs, .int .i64 xu] 42); have b3 := next b2 hb3a; have HZ := hid (hoz.below hb3a); have HX := hid (bxX_new w3 xa xs xu)))
  obtain ⟨g, zcc, hsh⟩ := own_shape HZ.out.row (by omega)
  simp only [Value.slice.injEq] at hsh
  obtain ⟨rfl, _, rfl⟩ := hsh
  have hcapz : 128 * R ≤ zc := HZ.out.sl.room
  go_loopw [14, 15] (fun s14 s15 wr => ∃ s : Nat, s ≤ hgt n ∧ s15 = .int .i64 s ∧ s14 = .int .i64 ((nmN n (hgt n - s) + wyN e (hgt n - s) : Nat) : Int) ∧ Below (w3.alloc (.cells #[.int .i64 xa, .int .i64 xs, .int .i64 xu] 42)).heap.size (w3.alloc (.cells #[.int .i64 xa, .int .i64 xs, .int .i64 xu] 42)) wr) (fun _ s15 _ => 4 - (intOf s15).toNat)
  case atStart => exact ⟨0, Nat.zero_le _, rfl, by rw [Nat.sub_zero, HTP.out]; rfl, Below.refl _ _⟩
  case round =>
    obtain ⟨s, hs, rfl, rfl, hb⟩ := hrel
    obtain ⟨j, hj⟩ : ∃ j, hgt n - s = j := ⟨_, rfl⟩
    rw [hj]
    obtain ⟨k1, k2, k3⟩ := HND.out j (by omega)
    obtain ⟨kk, hkk⟩ : ∃ kk, nmN n j + wyN e j = kk := ⟨_, rfl⟩
    rw [hkk] at k1 k2 ⊢
    obtain ⟨c, c1, c7, cK, cps, cH, cP⟩ := HWW.out j
    have hsi : (s : Int) < 4 := by omega
    have y1 : IntKind.i64.wrap ((kk : Int) + 1) = ((kk + 1 : Nat) : Int) := by rw [IntWalk.i64_in _ ⟨by omega, by omega⟩]; omega
    have y2 : IntKind.i64.wrap (128 * ((kk + 1 : Nat) : Int)) = ((128 * (kk + 1) : Nat) : Int) := by rw [IntWalk.i64_in _ ⟨by omega, by omega⟩]; omega
    have y3 : IntKind.i64.wrap (128 * (kk : Int)) = ((128 * kk : Nat) : Int) := by rw [IntWalk.i64_in _ ⟨by omega, by omega⟩]; omega
    have e1 : ¬ ((kk : Int) < 0) := by omega
    have e2 : ¬ (((128 * R : Nat) : Int) < ((128 * (kk + 1) : Nat) : Int)) := by omega
    have e3 : ((128 * (kk + 1) : Nat) : Int) ≤ (zc : Int) := by omega
    have e4 : ((128 * kk : Nat) : Int) ≤ ((128 * (kk + 1) : Nat) : Int) := by omega
    have e5 : 128 * (kk + 1) - 128 * kk = 128 := by omega
    have e6 : ¬ (zc = 128 * kk) := by omega
    have e7 : 128 * (kk + 1) ≤ zc := by omega
    have hS := (HZ.out.sl.below hb).nodeAt (128 * kk) 128 (by omega)
    rw [k2] at hS
    simp only [Nat.zero_add] at hS
    have cA := all_any (some ⟨g, 128 * kk, none⟩) 128 (zc - 128 * kk) _ wr hS (ofL_bytes _) (by omega)
    rw [(all_of k3).1, (all_of k3).2] at cA
    have hndl := ndW_len l j (wyN e j)
    have HKJ := hid hkk
    have HJ := hid hj
    have HJS : Hid (∀ j', j = j' + 1 → s + 1 ≤ hgt n ∧ hgt n - (s + 1) = j') := hid (fun j' e => by omega)
    have hjb : j ≤ 2 := by omega
    have HLJ := hid (HLA.out j)
    rw [cps] at HLJ
    have HP := hid cP
    generalize ndW l j (wyN e j) = W16 at *
    clear hS k2 k3 hkk hj cP
    obtain ⟨H, hH⟩ : ∃ H, W16.getD 0 0 = H := ⟨_, rfl⟩
    rw [hH] at cH
    have t1 : Int.tdiv H 2 = (c : Int) := by
      rw [Int.tdiv_eq_ediv_of_nonneg (by rw [cH]; split <;> omega)]
      rw [cH]; split <;> omega
    have t2 : IntKind.i64.wrap (c : Int) = (c : Int) := IntWalk.i64_in _ ⟨by omega, by omega⟩
    obtain ⟨B, hB⟩ : ∃ B : Int, (if j = 0 then (1 : Int) else 0) = B := ⟨_, rfl⟩
    have t3 : Int.tmod H 2 = B := by
      rw [Int.tmod_eq_emod_of_nonneg (by rw [cH]; split <;> omega), cH, ← hB]
      split <;> omega
    have t4 : ¬ ((c : Int) < 1) := by omega
    have t5 : ¬ (7 < (c : Int)) := by omega
    have HB' := hid hB
    clear hB cH
    go_wp2_with (first
      | (go_at_call 27; (with_reducible refine cA.mono ?_; rintro e w4 ⟨wo, mw, wc, rfl, how, hb4⟩; obtain rfl : mw = 16 := (by have := how.len; omega); have b4 := next hb hb4; obtain ⟨gw, wcc, hsw⟩ := own_shape how.row (by omega); simp only [Value.slice.injEq] at hsw; obtain ⟨rfl, _, rfl⟩ := hsw; have z0 := how.at 0 (by omega) hH; have HO := hid how; clear how)))
    go_loopw [18, 19] (fun s18 s19 wr => ∃ t : Nat, t ≤ c ∧ s19 = .int .i64 t ∧ s18 = .int .i64 ((atK (wyK e j) t : Nat) : Int) ∧ Below w4.heap.size w4 wr) (fun _ s19 _ => c - (intOf s19).toNat)
    case atStart => exact ⟨0, Nat.zero_le _, rfl, rfl, Below.refl _ _⟩
    case round =>
      obtain ⟨t, ht, rfl, rfl, hbt⟩ := hrel
      have z0' := (HO.out.below hbt).at 0 (by omega) hH
      by_cases htc : t < c
      · have hti : (t : Int) < (c : Int) := by omega
        obtain ⟨kv, hkv⟩ : ∃ kv, W16.getD (1 + 2 * t) 0 = kv := ⟨_, rfl⟩
        have zk := (HO.out.below hbt).at (1 + 2 * t) (by omega) hkv
        have hle : kv ≤ p ↔ t ≤ wyK e j := by rw [← hkv, (HP.out t htc).1]; exact HLJ.out t htc
        have v3 : IntKind.i64.wrap ((t : Int) + 1) = ((t + 1 : Nat) : Int) := by rw [IntWalk.i64_in _ ⟨by omega, by omega⟩]; omega
        have HA := hid (atK_next (K := wyK e j) (t := t))
        by_cases hk : t ≤ wyK e j
        · have hkp : kv ≤ p := hle.2 hk
          rw [if_pos hk] at HA
          clear hle hkv hk
          go_wp2
          go_roundw
          case rel => exact ⟨t + 1, by omega, rfl, by rw [HA.out], hbt⟩
          case measure => simp [intOf]; omega
        · have hkp : ¬ (kv ≤ p) := fun c => hk (hle.1 c)
          rw [if_neg hk] at HA
          clear hle hkv hk
          go_wp2
          go_roundw
          case rel => exact ⟨t + 1, by omega, rfl, by rw [HA.out], hbt⟩
          case measure => simp [intOf]; omega
      · obtain rfl : c = t := by omega
        have hti : ¬ ((c : Int) < (c : Int)) := by omega
        rw [atK_all cK]
        obtain ⟨hk1, hk2⟩ := HP.out (wyK e j) cK
        cases j with
        | zero =>
          have hB1 : B = 1 := by have := HB'.out; simpa using this.symm
          subst hB1
          have hen := HEN.out
          rw [hen] at hk1 hk2
          simp only [xpP] at hk1 hk2
          obtain ⟨K, hK⟩ : ∃ K, wyK e 0 = K := ⟨_, rfl⟩
          rw [hK] at hk1 hk2 cK ⊢
          have zA := (HO.out.below hbt).at (1 + 2 * K) (by omega) hk1
          obtain ⟨V, hV⟩ : ∃ V, 4 * xs + xu = V := ⟨_, rfl⟩
          rw [hV] at hk2
          have zV := (HO.out.below hbt).at (2 + 2 * K) (by omega) hk2
          have q1 : Int.tdiv V 4 = xs := by rw [Int.tdiv_eq_ediv_of_nonneg (by omega)]; omega
          have q2 : Int.tmod V 4 = xu := by rw [Int.tmod_eq_emod_of_nonneg (by omega)]; omega
          have q3 : IntKind.i64.wrap xs = xs := IntWalk.i64_in _ ⟨by omega, by omega⟩
          have q4 : IntKind.i64.wrap (p - xa) = p - xa := IntWalk.i64_in _ ⟨by omega, by omega⟩
          have q5 : p - xa < xs := by omega
          have bt := next b4 hbt
          obtain ⟨x0, x1, x2, _⟩ := (HX.out.kept bt).cells
          simp only at x0 x1 x2
          have HBE := hid (next b3 bt)
          have hK6 : (K : Int) ≤ 6 := by omega
          have hK0 : (0 : Int) ≤ (K : Int) := by omega
          have r1 : IntKind.i64.wrap (2 * (K : Int)) = 2 * (K : Int) := IntWalk.i64_in _ ⟨by omega, by omega⟩
          have r2 : IntKind.i64.wrap (1 + 2 * (K : Int)) = 1 + 2 * (K : Int) := IntWalk.i64_in _ ⟨by omega, by omega⟩
          have r3 : IntKind.i64.wrap (2 + 2 * (K : Int)) = 2 + 2 * (K : Int) := IntWalk.i64_in _ ⟨by omega, by omega⟩
          have r4 : (0 : Int) ≤ 1 + 2 * (K : Int) := by omega
          have r5 : (1 : Int) + 2 * (K : Int) < 16 := by omega
          have r6 : (0 : Int) ≤ 2 + 2 * (K : Int) := by omega
          have r7 : (2 : Int) + 2 * (K : Int) < 16 := by omega
          have r8 : (1 + 2 * (K : Int)).toNat = 1 + 2 * K := by omega
          have r9 : (2 + 2 * (K : Int)).toNat = 2 + 2 * K := by omega
          clear hV hk1 hk2 hen HP HLJ HB' HO HX
          go_wp2
          go_region_held3 (fun w' => w'.cell? ⟨w3.heap.size, 0, none⟩ = some (.int .i64 xa) ∧ w'.cell? ⟨w3.heap.size, 1, none⟩ = some (.int .i64 xs) ∧ w'.cell? ⟨w3.heap.size, 2, none⟩ = some (.int .i64 xu) ∧ w'.cell? ⟨gw, 1 + 2 * K, none⟩ = some (.int .i64 xa) ∧ w'.cell? ⟨gw, 2 + 2 * K, none⟩ = some (.int .i64 V)) (go_keep) (fail)
          go_wp2
          go_ret
          exact ⟨rfl, HBE.out.drew⟩
        | succ j' =>
          have hB0 : B = 0 := by have := HB'.out; simpa using this.symm
          subst hB0
          rw [HST.out j'] at hk2
          obtain ⟨hs1, hs2⟩ := HJS.out j' rfl
          have hnx := HNX.out j' (by have := HJ.out; omega)
          obtain ⟨K, hK⟩ : ∃ K, wyK e (j' + 1) = K := ⟨_, rfl⟩
          rw [hK] at hk2 cK ⊢
          have zV := (HO.out.below hbt).at (2 + 2 * K) (by omega) hk2
          have HNE : Hid (lvB l.length (j' + 1) + wyN e j' = nmN n (hgt n - (s + 1)) + wyN e (hgt n - (s + 1))) := hid (by rw [hs2]; exact hnx)
          have y9 : IntKind.i64.wrap ((s : Int) + 1) = ((s + 1 : Nat) : Int) := by rw [IntWalk.i64_in _ ⟨by omega, by omega⟩]; omega
          have bt := next b4 hbt
          obtain ⟨kn, hkn⟩ : ∃ kn, lvB l.length (j' + 1) + wyN e j' = kn := ⟨_, rfl⟩
          rw [hkn] at zV HNE
          clear hk1 hk2 hnx hkn HP HLJ HB' HO HX
          go_wp2
          go_roundw
          case rel => exact ⟨s + 1, hs1, rfl, by rw [← HNE.out], bt⟩
          case measure => simp [intOf]; omega
end Go.Proofs.Ythkloknongkpdaa
