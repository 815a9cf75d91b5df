/- RefTreG · RefTreH · RefTreI: these texts, one behind another. -/
import Derived.Test.YthkloknongkpdaaMtF
import Derived.Test.YthkloknongkpdaaRefTreB
import Derived.Test.YthkloknongkpdaaRefOf
import Derived.Test.YthkloknongkpdaaMtE
import Derived.Deep.Cut
/- joistref14.Write by its contract. -/
namespace Go.Proofs.Ythkloknongkpdaa
set_option maxRecDepth 100000
open Go.RowKit
set_option linter.unusedVariables false
set_option linter.unusedSimpArgs false
set_option maxRecDepth 100000

theorem nt_64 : ntN 64 = 13 := by
  rw [show (64 : Int) = ((64 : Nat) : Int) by rfl, nt_nat, show abv 64 = 10 by decide, ndS_gt (by decide), show abv 10 = 2 by decide, ndS_gt (by decide), show abv 2 = 1 by decide, ndS_le (by decide)]
  rfl
/-- The words of one node laid so far. -/
def wdP (b : Int) (x : Nod) (t : Nat) : List Int := (2 * x.cnt + (if x.leaf then 1 else 0)) :: adN b x.leaf x.ws t
theorem wdP_len (b : Int) (x : Nod) (t : Nat) : (wdP b x t).length = t + 1 := by simp [wdP, adN_len]
theorem wdP_next (b : Int) (x : Nod) (t : Nat) : wdP b x (t + 1) = wdP b x t ++ [if x.leaf = false ∧ t % 2 = 1 then x.ws.getD t 0 + b else x.ws.getD t 0] := by simp [wdP, adN_next]
/-- Zeros behind. -/
def pzL (xs : List Int) (m : Nat) : List Int := xs ++ List.replicate (m - xs.length) 0
theorem pzL_next {xs : List Int} {m : Nat} (h : xs.length ≤ m) : pzL xs (m + 1) = pzL xs m ++ [0] := by
  unfold pzL
  rw [show m + 1 - xs.length = (m - xs.length) + 1 by omega, List.replicate_succ', List.append_assoc]
theorem pzL_zero (xs : List Int) : pzL xs xs.length = xs := by simp [pzL]
theorem pzL_16 (b : Int) (x : Nod) : pzL (wdP b x x.ws.length) 16 = wNd b x := rfl
theorem ofL_zeros (k : Nat) : ofL (List.replicate k 0) = List.replicate (8 * k) 0 := by
  induction k with
  | zero => rfl
  | succ k ih =>
    rw [List.replicate_succ, show 0 :: List.replicate k (0 : Int) = [0] ++ List.replicate k 0 by rfl, ofL_append, ih, show 8 * (k + 1) = 8 + 8 * k by omega, ← List.replicate_append_replicate]
    rfl
/-- The bytes of the first nodes. -/
def byQ (l : List Blk) (q i : Nat) : List Int := ofL (trQ l q ++ (lvW l (hgt l.length - q)).take i).flatten
theorem byQ_zero (l : List Blk) (q : Nat) : byQ l q 0 = ofL (trQ l q).flatten := by simp [byQ]
theorem byQ_all (l : List Blk) (q : Nat) : byQ l q (lvC l.length (hgt l.length - q)) = byQ l (q + 1) 0 := by
  rw [byQ_zero, trQ_next, byQ, List.take_of_length_le (by rw [lvW_len]; exact Nat.le_refl _)]
theorem byQ_next {l : List Blk} {q i : Nat} (h : i < lvC l.length (hgt l.length - q)) : byQ l q (i + 1) = byQ l q i ++ ofL (ndW l (hgt l.length - q) i) := by
  unfold byQ
  have e : (lvW l (hgt l.length - q)).take (i + 1) = (lvW l (hgt l.length - q)).take i ++ [ndW l (hgt l.length - q) i] := by
    rw [List.take_add_one]
    congr 1
    simp [lvW, h]
  rw [e, ← List.append_assoc, List.flatten_append, ofL_append]
  simp
theorem byQ_end {l : List Blk} {room : Nat} (h : (trL l).length ≤ room) : byQ l (hgt l.length + 1) 0 ++ List.replicate (128 * room - (byQ l (hgt l.length + 1) 0).length) 0 = ofL (trW room l) := by
  have e : (byQ l (hgt l.length + 1) 0).length = 128 * (trL l).length := by
    rw [byQ_zero, trQ_all, ofL_length, flat16_len (trL_all l)]
    omega
  rw [e, byQ_zero, trQ_all, trW, ofL_append, ofL_zeros]
  congr 2
  omega
end Go.Proofs.Ythkloknongkpdaa
/- joistref14.Write, walked where there is a tree. -/
namespace Go.Proofs.Ythkloknongkpdaa
set_option maxRecDepth 100000
open Go.RowKit
set_option linter.unusedVariables false
set_option linter.unusedSimpArgs false
set_option maxRecDepth 100000

theorem sl_u8 (w : World) (k : Nat) (x : Int) (hk : w.heap.size = k) : Sl .u8 (w.alloc (.cells #[.int .u8 x] 5)) (some ⟨k, 0, none⟩) 1 1 [x] := by
  subst hk
  refine ⟨rfl, Nat.le_refl _, (by intro h; cases h), fun _ => ⟨_, _, rfl, by simp, fun i hi => ?_⟩⟩
  obtain rfl : i = 0 := by omega
  simp
/-- '[]int{x}' as a row of the call's own. -/
theorem own_int1 (w : World) (x : Int) : Own .i64 3 w.heap.size (w.alloc (.cells #[.int .i64 x] 3)) (some ⟨w.heap.size, 0, none⟩) 1 1 [x] :=
  ⟨rfl, rfl, Or.inr ⟨w.heap.size, 1, #[.int .i64 x], rfl, Nat.le_refl _, heap_alloc_new w _, Nat.le_refl _, by unfold maxLen; omega, rfl, rfl⟩⟩
theorem lvC_10 {n : Nat} (hn : n ≤ 64) : ∀ j, lvC n j ≤ 10 := by
  intro j
  induction j with
  | zero => simp only [lvC]; unfold abv; omega
  | succ j ih => simp only [lvC]; unfold abv; omega
/-- What a level's node is: its count, its words. -/
theorem lv_node {l : List Blk} (hn : l.length ≤ 343) {j i : Nat} (hi : i < lvC l.length j) (hi2 : i ≤ 10) : ∃ ps : List (Int × Int), ps.length ≤ 7 ∧ (noa (lvN l j) i).ws = prL ps ∧ (noa (lvN l j) i).cnt = (ps.length : Nat) ∧ (noa (lvN l j) i).leaf = (j == 0) ∧ (1 ≤ j → ∀ t, t % 2 = 1 → t < 2 * ps.length → 0 ≤ (prL ps).getD t 0 ∧ (prL ps).getD t 0 ≤ 100) := by
  cases j with
  | zero =>
    simp only [lvC] at hi
    simp only [lvN]
    rw [noa_map hi]
    exact ⟨psN l 0 i, psN_le l 0 i, rfl, rfl, rfl, fun h => by omega⟩
  | succ j =>
    simp only [lvC] at hi
    simp only [lvN]
    rw [lvN_len, noa_map hi]
    refine ⟨upQ (lvN l j) i (min 7 ((lvN l j).length - 7 * i)), by simp [upQ]; omega, rfl, by simp [upX, upQ], rfl, fun _ t h1 h2 => ?_⟩
    have hk : t / 2 < (upQ (lvN l j) i (min 7 ((lvN l j).length - 7 * i))).length := by omega
    have h3 := (prL_at _ (t / 2) hk).2
    rw [show 2 * (t / 2) + 1 = t by omega] at h3
    rw [h3]
    have hk2 : t / 2 < min 7 ((lvN l j).length - 7 * i) := by simpa [upQ] using hk
    have h4 : (upQ (lvN l j) i (min 7 ((lvN l j).length - 7 * i))).getD (t / 2) (0, 0) = ((noa (lvN l j) (7 * i + t / 2)).fst, ((7 * i + t / 2 : Nat) : Int)) := by simp [upQ, List.getD, hk2]
    rw [h4]
    simp only
    omega
set_option maxHeartbeats 8000000 in
theorem rwrite_in (P : Int) (room : Nat) (ao : Option Addr) (n cap : Nat) (l : List Blk) (w : World) (h : Bs w ao n cap l) (hr : RightX P l) (hm : RoomX room l) :
    Calls Try.prog 19 #[.int .i64 P, .int .i64 (room : Int), .slice ao n cap] w fun e w' => ∃ bo m c, e = .returned (.tuple #[.slice bo m c, .int .i64 0]) ∧ Own .u8 5 w.heap.size w' bo m c (ofL (trW room l)) ∧ Below w.heap.size w w' := by
  have hl := h.len
  have hn : n ≤ 64 := by have := hr.n64; omega
  have cR := rrightX_bs P ao n cap l w h (by omega)
  rw [show rxB P l = true from decide_eq_true hr] at cR
  have cL : ∀ w1, Below w.heap.size w w1 → Calls Try.prog 33 #[.slice ao n cap] w1 fun e w' => ∃ bo c ls, e = .returned (.slice bo (hgt n + 1) c) ∧ OwL w1.heap.size w' bo (hgt n + 1) c ls ∧ (∀ i, i ≤ hgt n → ∃ d, ls[i]? = some d ∧ d.ds.map (·.x) = lvN l (hgt n - i)) ∧ Below w1.heap.size w1 w' := fun w1 hb => rlevels_bs P ao n cap l w1 (h.below hb) hr
  have cN := fun w' => rnodes_any (n : Int) (by omega) w'
  have cM := fun w' => rnodes_any 64 (by omega) w'
  simp only [nt_64] at cM
  have hm1 : ntN (n : Int) ≤ (room : Int) := by have := hm.1; rwa [hl] at this
  have hm2 : (room : Int) ≤ 13 := hm.2
  have d1 : ¬ ((room : Int) < ntN (n : Int)) := by omega
  have d2 : ¬ (13 < (room : Int)) := by omega
  have HTL : Hid ((trL l).length ≤ room) := hid (by have := hm.nodes hr; simpa using this.1)
  have HFT : Hid (∀ j i, j ≤ 2 → i ≤ 64 → okL (ndW l j i) = true) := hid (fun j i hj hi => List.all_eq_true.2 (node_fits hr j i hi hj))
  have hg2 := hgt_le n
  have HLN := hid (lvN_len l)
  generalize ntN (n : Int) = nn at *
  clear h hr hm
  go_enter Try.func19, Try.ntmps19
  go_wp2_with (first
    | (go_at_call 15; with_reducible refine cR.mono ?_; rintro e w1 ⟨rfl, hb1⟩)
    | (go_at_call 17; with_reducible refine (cN _).mono ?_; rintro e w' ⟨rfl, rfl⟩)
    | (go_at_call 17; with_reducible refine (cM _).mono ?_; rintro e w' ⟨rfl, rfl⟩)
    | (go_at_call 33; with_reducible refine (cL _ hb1).mono ?_; rintro e w2 ⟨bl, cl, ls, rfl, ho2, hs2, hb2⟩; have HL := hid ho2; have HS := hid hs2; have hbw2 := next hb1 hb2; clear ho2 hs2))
  have HLV : Hid (∀ W, Below w2.heap.size w2 W → ∀ q, q ≤ hgt n → ∃ g b0 c0 ds, bl = some ⟨g, 0, none⟩ ∧ W.cell? ⟨g, q, none⟩ = some (.slice b0 (lvC n (hgt n - q)) c0) ∧ OwN w1.heap.size W b0 (lvC n (hgt n - q)) c0 ds ∧ ds.map (·.x) = lvN l (hgt n - q)) := hid (fun W hW q hq => by
    have hL := HL.out.below hW
    obtain ⟨g, e, _, _, d, hd, h1, h2⟩ := hL.at (i := q) (by omega)
    obtain ⟨d', h3, h4⟩ := HS.out q hq
    rw [h1] at h3
    cases h3
    have hN := hL.own d hd
    have hlen : d.m = lvC n (hgt n - q) := by
      have e := congrArg List.length h4
      rw [List.length_map, HLN.out, hl] at e
      rw [← e]; exact hN.len.symm
    rw [hlen] at h2 hN
    exact ⟨g, d.bo, d.c, d.ds, e, h2, hN, h4⟩)
  have HBS : Hid (∀ q, q ≤ hgt n + 1 → bsS n q ≤ 13) := hid (fun q hq => by
    have hlv : ∀ j, lvC n j ≤ 10 := fun j => by
      induction j with
      | zero => simp only [lvC]; unfold abv; omega
      | succ j ih => simp only [lvC]; unfold abv; omega
    have h0 := top_one (n := n) (by omega)
    rcases (show hgt n = 0 ∨ hgt n = 1 ∨ hgt n = 2 by omega) with e | e | e
    · rcases (show q = 0 ∨ q = 1 by omega) with rfl | rfl <;> simp only [bsS, e, Nat.sub_zero] <;> (try have := hlv 0) <;> omega
    · have h1 := hlv 0
      rw [e] at h0
      rcases (show q = 0 ∨ q = 1 ∨ q = 2 by omega) with rfl | rfl | rfl <;> simp only [bsS, e, Nat.sub_zero, Nat.sub_self] <;> omega
    · have h1 := hlv 0
      rw [e] at h0
      have h2 : lvC n 1 ≤ 2 := by simp only [lvC] at h1 ⊢; unfold abv at *; omega
      rcases (show q = 0 ∨ q = 1 ∨ q = 2 ∨ q = 3 by omega) with rfl | rfl | rfl | rfl <;> simp only [bsS, e, Nat.sub_zero, Nat.sub_self] <;> (try simp only [show 2 - 1 = 1 from rfl]) <;> omega)
  have hbl : ∃ g, bl = some ⟨g, 0, none⟩ := by
    obtain ⟨g, _, _, _, e, _⟩ := HLV.out w2 (Below.refl _ _) 0 (by omega)
    exact ⟨g, e⟩
  obtain ⟨g, rfl⟩ := hbl
  clear HL HS cL cR cN cM
  go_loopw [10, 11, 12] (fun s10 s11 s12 wr => ∃ (q : Nat) (bo : Option Addr) (c : Nat), q ≤ hgt n + 1 ∧ s10 = .slice bo (128 * bsS n q) c ∧ s11 = .int .i64 (bsS n q : Nat) ∧ s12 = .int .i64 q ∧ Hid (Own .u8 5 w2.heap.size wr bo (128 * bsS n q) c (byQ l q 0)) ∧ Below w2.heap.size w2 wr) (fun _ _ s12 _ => hgt n + 1 - (intOf s12).toNat)
  case atStart => exact ⟨0, none, 0, Nat.zero_le _, rfl, rfl, rfl, hid (own_nil _ _ _ _), Below.refl _ _⟩
  case round =>
    obtain ⟨q, bo, c, hq, rfl, rfl, rfl, HO, hb⟩ := hrel
    obtain ⟨wa, rfl⟩ : ∃ wa, wa = wr := ⟨wr, rfl⟩
    by_cases hlt : q < hgt n + 1
    · have hqi : (q : Int) < ((hgt n + 1 : Nat) : Int) := by omega
      have hqi' : (q : Int) < (hgt n : Int) + 1 := by omega
      obtain ⟨g', b0, c0, ds, e0, q0, hN0, hx0⟩ := HLV.out wa hb q (by omega)
      cases e0
      obtain ⟨j, hj⟩ : ∃ j, hgt n - q = j := ⟨_, rfl⟩
      rw [hj] at q0 hN0 hx0
      have hb13 := HBS.out (q + 1) (by omega)
      have hbq : bsS n (q + 1) = bsS n q + lvC n j := by simp only [bsS, hj]
      rw [hbq] at hb13
      have HBQ := hid hbq
      have x1 : IntKind.i64.wrap (((bsS n q : Nat) : Int) + ((lvC n j : Nat) : Int)) = ((bsS n (q + 1) : Nat) : Int) := by rw [IntWalk.i64_in _ ⟨by omega, by omega⟩]; omega
      clear hbq
      have hj2 : j ≤ hgt n := by omega
      have HJB : Hid (1 ≤ j → ((bsS n (q + 1) : Nat) : Int) = ((lvB l.length j : Nat) : Int)) := hid (fun h1 => by rw [bsS_lv (n := n) (by omega) (by omega) (by omega), hj, hl])
      have HJH : Hid (hgt l.length - q = j) := hid (by rw [hl]; exact hj)
      have HBA : Hid (byQ l q (lvC n j) = byQ l (q + 1) 0) := hid (by have := byQ_all l q; rwa [HJH.out, hl] at this)
      have HBN : Hid (∀ i, i < lvC n j → byQ l q (i + 1) = byQ l q i ++ ofL (ndW l j i)) := hid (fun i hi => by have := byQ_next (l := l) (q := q) (i := i) (by rw [HJH.out, hl]; exact hi); rwa [HJH.out] at this)
      have HND : Hid (∀ i, i < lvC n j → wNd ((bsS n (q + 1) : Nat) : Int) (noa (lvN l j) i) = ndW l j i) := hid (fun i hi => node_words (by omega) (by rw [hl]; exact hi) _ HJB.out (by rw [hl]; exact hj2))
      obtain ⟨BB, hBB⟩ : ∃ BB, bsS n (q + 1) = BB := ⟨_, rfl⟩
      rw [hBB] at x1 HBQ HND
      have hBB13 : BB ≤ 13 := by have := HBS.out (q + 1) (by omega); omega
      have HBB := hid hBB
      have HJ := hid hj
      clear hj hN0 hx0 hBB HJB
      go_wp2
      go_loopw [10, 13] (fun s10 s13 wr => ∃ (i : Nat) (bo : Option Addr) (c : Nat), i ≤ lvC n j ∧ s10 = .slice bo (128 * (bsS n q + i)) c ∧ s13 = .int .i64 i ∧ Hid (Own .u8 5 w2.heap.size wr bo (128 * (bsS n q + i)) c (byQ l q i)) ∧ Below w2.heap.size w2 wr) (fun _ s13 _ => lvC n j - (intOf s13).toNat)
      case atStart => exact ⟨0, bo, c, Nat.zero_le _, rfl, rfl, HO, hb⟩
      case round =>
        clear HO
        obtain ⟨i, bo, c, hi, rfl, rfl, HO, hbi⟩ := hrel
        obtain ⟨wb, rfl⟩ : ∃ wb, wb = wr := ⟨wr, rfl⟩
        obtain ⟨g', b0, c0, ds, e0, q0, hN0, hx0⟩ := HLV.out wb hbi q (by omega)
        cases e0
        rw [HJ.out] at q0 hN0 hx0
        by_cases hlti : i < lvC n j
        · have hii : (i : Int) < ((lvC n j : Nat) : Int) := by omega
          have hN10 : lvC n j ≤ 13 := by omega
          obtain ⟨g0, rfl, hg0B, hg0l⟩ := hN0.shape (by omega)
          obtain ⟨a0, a1, a2, a3⟩ := hN0.at hlti
          have hds := hN0.len
          have hOw := hN0.own _ (na_mem (l := ds) (i := i) (by omega))
          have hxi := na_noa hx0 (k := i) (by omega)
          obtain ⟨ps, hp7, hws, hcn, hlf, hod⟩ := lv_node (l := l) (by omega) (j := j) (i := i) (by rw [hl]; exact hlti) (by have := lvC_10 hn j; omega)
          rw [← hxi] at hws hcn hlf
          have HNW := hid (HND.out i hlti)
          rw [← hxi] at HNW
          have HBN1 := hid (HBN.out i hlti)
          have HFT1 := hid (HFT.out j i (by omega) (by omega))
          obtain ⟨dd, hnd⟩ : ∃ dd, na ds i = dd := ⟨_, rfl⟩
          rw [hnd] at a0 a1 a2 a3 hOw hws hcn hlf HNW hxi
          obtain ⟨bw, mw, cw, x⟩ := dd
          simp only at a0 a1 a2 a3 hOw hws hcn hlf HNW
          have hmw : mw = 2 * ps.length := by have := hOw.len; rw [hws, prL_len] at this; omega
          subst hmw
          obtain ⟨kq, hkq⟩ : ∃ kq, ps.length = kq := ⟨_, rfl⟩
          rw [hkq] at a0 hOw hcn hp7 hod
          obtain ⟨wsl, cn, lf, fs⟩ := x
          simp only at a1 a2 a3 hOw hws hcn hlf HNW
          subst hcn
          have HWS := hid hws
          have hj0 : lf = true ∨ (lf = false ∧ 1 ≤ j) := by
            rw [hlf]
            by_cases e : j = 0
            · left; simp [e]
            · right; exact ⟨by simpa using e, by omega⟩
          have HOD : Hid (lf = false → ∀ t, t % 2 = 1 → t < 2 * kq → 0 ≤ wsl.getD t 0 ∧ wsl.getD t 0 ≤ 100) := hid (fun e t h1 h2 => by
            rw [hws]
            refine hod ?_ t h1 h2
            rcases hj0 with h0 | h0
            · rw [e] at h0; cases h0
            · exact h0.2)
          clear hlf hod hws hkq hN0 hx0 hds hj0 hnd hxi
          cases lf with
          | true =>
            have hb1 : Below wb.heap.size wb (wb.alloc (.cells #[.slice bw (2 * kq) cw, .int .i64 (kq : Int), .bool true, .int .i64 fs] 64)) := (Below.refl _ _).alloc (Nat.le_refl _) _
            have HX1 : Hid (NBx (wb.alloc (.cells #[.slice bw (2 * kq) cw, .int .i64 (kq : Int), .bool true, .int .i64 fs] 64)) wb.heap.size ⟨bw, 2 * kq, cw, ⟨wsl, (kq : Int), true, fs⟩⟩) := hid (heap_alloc_new wb _)
            have HOw1 := hid (hOw.below hb1)
            have x3 : IntKind.i64.wrap (2 * (kq : Int)) = 2 * (kq : Int) := IntWalk.i64_in _ ⟨by omega, by omega⟩
            have x3' : IntKind.i64.wrap (2 * (kq : Int) + 1) = 2 * (kq : Int) + 1 := IntWalk.i64_in _ ⟨by omega, by omega⟩
            have x2 : IntKind.i64.wrap ((i : Int) + 1) = ((i + 1 : Nat) : Int) := by rw [IntWalk.i64_in _ ⟨by omega, by omega⟩]; omega
            have HO1 := hid (HO.out.below hb1)
            have hbi1 := next hbi hb1
            have HHD : Hid (wdP ((BB : Nat) : Int) ⟨wsl, (kq : Int), true, fs⟩ 0 = [2 * (kq : Int) + 1]) := hid (by simp [wdP, adN])
            go_upto_region 20 with (fail)
            have hsz1 : wb.heap.size + 1 = (wb.alloc (.cells #[.slice bw (2 * kq) cw, .int .i64 (kq : Int), .bool true, .int .i64 fs] 64)).heap.size := by simp
            have HSZ := hid hsz1
            clear hsz1
            generalize wb.alloc (.cells #[.slice bw (2 * kq) cw, .int .i64 (kq : Int), .bool true, .int .i64 fs] 64) = W1 at *
            have HI1 := hid (own_int1 W1 (2 * (kq : Int) + 1))
            have hb2' : Below W1.heap.size W1 (W1.alloc (.cells #[.int .i64 (2 * (kq : Int) + 1)] 3)) := (Below.refl _ _).alloc (Nat.le_refl _) _
            clear a0 a1 a2 a3 hOw
            go_wp2
            go_loopw [16, 17] (fun s16 s17 wr => ∃ (t : Nat) (b3 : Option Addr) (c3 : Nat), t ≤ 2 * kq ∧ s16 = .slice b3 (t + 1) c3 ∧ s17 = .int .i64 t ∧ Hid (Own .i64 3 W1.heap.size wr b3 (t + 1) c3 (wdP ((BB : Nat) : Int) ⟨wsl, (kq : Int), true, fs⟩ t)) ∧ Below W1.heap.size W1 wr) (fun _ s17 _ => 2 * kq - (intOf s17).toNat)
            case atStart => exact ⟨0, _, 1, Nat.zero_le _, rfl, rfl, by rw [HHD.out]; exact HI1, hb2'⟩
            case round =>
              clear HI1 hb2'
              obtain ⟨t, b3, c3, ht, rfl, rfl, HW, hbt⟩ := hrel
              obtain ⟨q1, q2, q3, q4⟩ := (HX1.out.kept hbt).cell
              simp only at q1 q2 q3 q4
              by_cases hltt : t < 2 * kq
              · have hti : (t : Int) < ((2 * kq : Nat) : Int) := by omega
                have hti' : (t : Int) < 2 * (kq : Int) := by omega
                obtain ⟨gw, cg, hsh⟩ := own_shape HOw1.out.row (by show 0 < 2 * kq; omega)
                simp only [Value.slice.injEq] at hsh
                obtain ⟨rfl, _, rfl⟩ := hsh
                obtain ⟨v, hv⟩ : ∃ v, wsl.getD t 0 = v := ⟨_, rfl⟩
                have z0 := (HOw1.out.below hbt).at t hltt hv
                have HNX : Hid (wdP ((BB : Nat) : Int) ⟨wsl, (kq : Int), true, fs⟩ (t + 1) = wdP ((BB : Nat) : Int) ⟨wsl, (kq : Int), true, fs⟩ t ++ [v]) := hid (by rw [wdP_next]; simp only; rw [hv]; rw [if_neg (by simp)])
                have hbQ : Below wr.heap.size wr (wr.alloc (.cells #[.int .i64 (v)] 3)) := (Below.refl _ _).alloc (Nat.le_refl _) _
                have HP := hid (sl_int wr wr.heap.size (v) rfl)
                have HWr := hid (HW.out.below hbQ).row
                have hsQ : W1.heap.size ≤ (wr.alloc (.cells #[.int .i64 (v)] 3)).heap.size := by have := hbt.size; simp; omega
                have hbR := next hbt hbQ
                have HGQ : Hid (∀ w5, (wr.alloc (.cells #[.int .i64 (v)] 3)).grownBy w5 (Value.slice b3 (t + 1) c3).ownBlock → Below W1.heap.size W1 w5) := hid (fun w5 hg => hbR.grown hg hsQ (fun k hk => (HW.out.row.lt k hk).1))
                have h8 : (t + 1 + 1) * 8 ≤ 140737488355328 := by omega
                have x9 : IntKind.i64.wrap ((t : Int) + 1) = ((t + 1 : Nat) : Int) := by rw [IntWalk.i64_in _ ⟨by omega, by omega⟩]; omega
                obtain ⟨L3, hL3⟩ : ∃ L3, wdP ((BB : Nat) : Int) ⟨wsl, (kq : Int), true, fs⟩ t = L3 := ⟨_, rfl⟩
                rw [hL3] at HWr HNX
                clear HW hv hL3
                go_wp2_with (at_builtin; refine append_il rfl (.tmp 99) (.tmp 101) rfl W1.heap.size _ (t + 1) L3 rfl HWr.out (some ⟨wr.heap.size, 0, none⟩) 1 1 [v] rfl HP.out h8 hsQ ?_; intro b5 c5 w5 ho5 hg5 _; have HO5 := hid ho5; have HB5 := hid (HGQ.out w5 hg5); clear ho5 hg5)
                go_roundw
                case rel => exact ⟨t + 1, b5, c5, by omega, rfl, rfl, by rw [HNX.out]; exact HO5, HB5.out⟩
                case measure => simp [intOf]; omega
              · obtain rfl : 2 * kq = t := by omega
                have hti : ¬ (((2 * kq : Nat) : Int) < ((2 * kq : Nat) : Int)) := by omega
                have HZ0 : Hid (Own .i64 3 W1.heap.size wr b3 (2 * kq + 1) c3 (pzL (wdP ((BB : Nat) : Int) ⟨wsl, (kq : Int), true, fs⟩ (2 * kq)) (2 * kq + 1))) := hid (by
                  have e := pzL_zero (wdP ((BB : Nat) : Int) ⟨wsl, (kq : Int), true, fs⟩ (2 * kq))
                  rw [wdP_len] at e
                  rw [e]; exact HW.out)
                have HPN : Hid (∀ m, 2 * kq + 1 ≤ m → pzL (wdP ((BB : Nat) : Int) ⟨wsl, (kq : Int), true, fs⟩ (2 * kq)) (m + 1) = pzL (wdP ((BB : Nat) : Int) ⟨wsl, (kq : Int), true, fs⟩ (2 * kq)) m ++ [0]) := hid (fun m hm => pzL_next (by rw [wdP_len]; exact hm))
                have HPE : Hid (pzL (wdP ((BB : Nat) : Int) ⟨wsl, (kq : Int), true, fs⟩ (2 * kq)) 16 = ndW l j i) := hid (by
                  rw [← HNW.out, ← pzL_16]
                  have e : wsl.length = 2 * kq := HOw1.out.len
                  simp only [e])
                obtain ⟨PL, hPL⟩ : ∃ PL, wdP ((BB : Nat) : Int) ⟨wsl, (kq : Int), true, fs⟩ (2 * kq) = PL := ⟨_, rfl⟩
                rw [hPL] at HZ0 HPN HPE
                clear HW hPL HHD HNW
                go_wp2
                go_loopw [16] (fun s16 wr => ∃ (m : Nat) (b3 : Option Addr) (c3 : Nat), 2 * kq + 1 ≤ m ∧ m ≤ 16 ∧ s16 = .slice b3 m c3 ∧ Hid (Own .i64 3 W1.heap.size wr b3 m c3 (pzL PL m)) ∧ Below W1.heap.size W1 wr) (fun s16 _ => 16 - slLen s16)
                case atStart => exact ⟨2 * kq + 1, b3, c3, Nat.le_refl _, by omega, rfl, HZ0, hbt⟩
                case round =>
                  clear HZ0 q1 q2 q3 q4 hbt
                  obtain ⟨m, b3, c3, hm1, hm2, rfl, HW, hbt⟩ := hrel
                  by_cases hlm : m < 16
                  · have hmi : (m : Int) < 16 := by omega
                    have HNX := hid (HPN.out m hm1)
                    have hbQ : Below wr.heap.size wr (wr.alloc (.cells #[.int .i64 0] 3)) := (Below.refl _ _).alloc (Nat.le_refl _) _
                    have HP := hid (sl_int wr wr.heap.size 0 rfl)
                    have HWr := hid (HW.out.below hbQ).row
                    have hsQ : W1.heap.size ≤ (wr.alloc (.cells #[.int .i64 0] 3)).heap.size := by have := hbt.size; simp; omega
                    have hbR := next hbt hbQ
                    have HGQ : Hid (∀ w5, (wr.alloc (.cells #[.int .i64 0] 3)).grownBy w5 (Value.slice b3 m c3).ownBlock → Below W1.heap.size W1 w5) := hid (fun w5 hg => hbR.grown hg hsQ (fun k hk => (HW.out.row.lt k hk).1))
                    have h8 : (m + 1) * 8 ≤ 140737488355328 := by omega
                    clear HW
                    go_wp2_with (at_builtin; refine append_il rfl (.tmp 106) (.tmp 107) rfl W1.heap.size _ m (pzL PL m) rfl HWr.out (some ⟨wr.heap.size, 0, none⟩) 1 1 [0] rfl HP.out h8 hsQ ?_; intro b5 c5 w5 ho5 hg5 _; have HO5 := hid ho5; have HB5 := hid (HGQ.out w5 hg5); clear ho5 hg5)
                    go_roundw
                    case rel => exact ⟨m + 1, b5, c5, by omega, by omega, rfl, by rw [HNX.out]; exact HO5, HB5.out⟩
                    case measure => simp [slLen]; omega
                  · obtain rfl : m = 16 := by omega
                    have hW := HW.out
                    rw [HPE.out] at hW
                    have cO := refof_any b3 16 c3 (ndW l j i) wr hW.sl (by omega)
                    rw [ofE_t HFT1.out, ofR_t HFT1.out] at cO
                    have hbw := next hbi1 hbt
                    have HOr := hid (HO1.out.below hbt)
                    have hn13 : bsS n q + i ≤ 13 := by omega
                    have hmi : ¬ ((16 : Int) < 16) := by omega
                    have HAP : Hid (∀ w6 mb cb (bb : Option Addr), Own .u8 5 wr.heap.size w6 bb mb cb (ofL (ndW l j i)) → Below wr.heap.size wr w6 → mb = 128 ∧ Sl .u8 w6 bb mb cb (ofL (ndW l j i)) ∧ Own .u8 5 w2.heap.size w6 bo (128 * (bsS n q + i)) c (byQ l q i) ∧ Below w2.heap.size w2 w6) := hid (fun w6 mb cb bb ho hb6 => by
                      refine ⟨?_, ho.sl, HOr.out.below hb6, next hbw hb6⟩
                      have := ho.len
                      rw [ofL_length, ndW_len] at this
                      omega)
                    have hsz2 := hbw.size
                    have hbs128 : 128 * (bsS n q + i) + 128 = 128 * (bsS n q + (i + 1)) := by omega
                    have H128 := hid hbs128
                    obtain ⟨QL, hQL⟩ : ∃ QL, byQ l q i = QL := ⟨_, rfl⟩
                    rw [hQL] at HAP HBN1
                    obtain ⟨NL, hNL⟩ : ∃ NL, ofL (ndW l j i) = NL := ⟨_, rfl⟩
                    rw [hNL] at HAP HBN1 cO
                    obtain ⟨m8, hm8⟩ : ∃ m8, 128 * (bsS n q + i) = m8 := ⟨_, rfl⟩
                    have HM8 := hid hm8
                    rw [hm8] at HAP ⊢
                    have hm8b : m8 + 128 ≤ 140737488355328 := by omega
                    clear HW hW hQL hNL HPN HPE HOr hbs128 hm8 HO1 HO
                    go_wp2_with (first
                      | (go_at_call 34; with_reducible refine cO.mono ?_; rintro e w6 ⟨bb, mb, cb, rfl, ho6, hb6⟩; obtain ⟨e8, hsl6, how6, hbw6⟩ := HAP.out w6 mb cb bb ho6 hb6; subst e8; have HSL := hid hsl6; have HWR := hid how6.row; have hs6 := hbw6.size; have HG6 : Hid (∀ w7, w6.grownBy w7 (Value.slice bo m8 c).ownBlock → Below w2.heap.size w2 w7) := hid (fun w7 hg => hbw6.grown hg hs6 (fun k hk => (how6.row.lt k hk).1)); clear ho6 hsl6 how6)
                      | (at_builtin; refine append_sl rfl (.tmp 114) (.tmp 115) rfl w2.heap.size _ m8 QL rfl HWR.out bb 128 cb NL rfl HSL.out hm8b hs6 ?_; intro b7 c7 w7 ho7 hg7 _; have HO7 := hid ho7; have HB7 := hid (HG6.out w7 hg7); clear ho7 hg7))
                    go_roundw
                    case rel => exact ⟨i + 1, b7, c7, by omega, by rw [← H128.out, HM8.out], rfl, by rw [← H128.out, HM8.out, HBN1.out]; exact HO7, HB7.out⟩
                    case measure => simp [intOf]; omega
          | false =>
            have hb1 : Below wb.heap.size wb (wb.alloc (.cells #[.slice bw (2 * kq) cw, .int .i64 (kq : Int), .bool false, .int .i64 fs] 64)) := (Below.refl _ _).alloc (Nat.le_refl _) _
            have HX1 : Hid (NBx (wb.alloc (.cells #[.slice bw (2 * kq) cw, .int .i64 (kq : Int), .bool false, .int .i64 fs] 64)) wb.heap.size ⟨bw, 2 * kq, cw, ⟨wsl, (kq : Int), false, fs⟩⟩) := hid (heap_alloc_new wb _)
            have HOw1 := hid (hOw.below hb1)
            have x3 : IntKind.i64.wrap (2 * (kq : Int)) = 2 * (kq : Int) := IntWalk.i64_in _ ⟨by omega, by omega⟩
            have x3' : IntKind.i64.wrap (2 * (kq : Int) + 1) = 2 * (kq : Int) + 1 := IntWalk.i64_in _ ⟨by omega, by omega⟩
            have x2 : IntKind.i64.wrap ((i : Int) + 1) = ((i + 1 : Nat) : Int) := by rw [IntWalk.i64_in _ ⟨by omega, by omega⟩]; omega
            have HO1 := hid (HO.out.below hb1)
            have hbi1 := next hbi hb1
            have HHD : Hid (wdP ((BB : Nat) : Int) ⟨wsl, (kq : Int), false, fs⟩ 0 = [2 * (kq : Int)]) := hid (by simp [wdP, adN])
            go_upto_region 20 with (fail)
            have hsz1 : wb.heap.size + 1 = (wb.alloc (.cells #[.slice bw (2 * kq) cw, .int .i64 (kq : Int), .bool false, .int .i64 fs] 64)).heap.size := by simp
            have HSZ := hid hsz1
            clear hsz1
            generalize wb.alloc (.cells #[.slice bw (2 * kq) cw, .int .i64 (kq : Int), .bool false, .int .i64 fs] 64) = W1 at *
            have HI1 := hid (own_int1 W1 (2 * (kq : Int)))
            have hb2' : Below W1.heap.size W1 (W1.alloc (.cells #[.int .i64 (2 * (kq : Int))] 3)) := (Below.refl _ _).alloc (Nat.le_refl _) _
            clear a0 a1 a2 a3 hOw
            go_wp2
            go_loopw [16, 17] (fun s16 s17 wr => ∃ (t : Nat) (b3 : Option Addr) (c3 : Nat), t ≤ 2 * kq ∧ s16 = .slice b3 (t + 1) c3 ∧ s17 = .int .i64 t ∧ Hid (Own .i64 3 W1.heap.size wr b3 (t + 1) c3 (wdP ((BB : Nat) : Int) ⟨wsl, (kq : Int), false, fs⟩ t)) ∧ Below W1.heap.size W1 wr) (fun _ s17 _ => 2 * kq - (intOf s17).toNat)
            case atStart => exact ⟨0, _, 1, Nat.zero_le _, rfl, rfl, by rw [HHD.out]; exact HI1, hb2'⟩
            case round =>
              clear HI1 hb2'
              obtain ⟨t, b3, c3, ht, rfl, rfl, HW, hbt⟩ := hrel
              obtain ⟨q1, q2, q3, q4⟩ := (HX1.out.kept hbt).cell
              simp only at q1 q2 q3 q4
              by_cases hltt : t < 2 * kq
              · have hti : (t : Int) < ((2 * kq : Nat) : Int) := by omega
                have hti' : (t : Int) < 2 * (kq : Int) := by omega
                obtain ⟨gw, cg, hsh⟩ := own_shape HOw1.out.row (by show 0 < 2 * kq; omega)
                simp only [Value.slice.injEq] at hsh
                obtain ⟨rfl, _, rfl⟩ := hsh
                obtain ⟨v, hv⟩ : ∃ v, wsl.getD t 0 = v := ⟨_, rfl⟩
                have z0 := (HOw1.out.below hbt).at t hltt hv
                have r1 : Int.tmod (t : Int) 2 = ((t % 2 : Nat) : Int) := by rw [Int.tmod_eq_emod_of_nonneg (by omega)]; omega
                by_cases ho : t % 2 = 1
                · have r2 : (((t % 2 : Nat) : Int) == 1) = true := by simp; omega
                  have hvb := HOD.out trivial t ho hltt
                  rw [hv] at hvb
                  have x10 : IntKind.i64.wrap (v + ((BB : Nat) : Int)) = v + ((BB : Nat) : Int) := IntWalk.i64_in _ ⟨by omega, by omega⟩
                  have HNX : Hid (wdP ((BB : Nat) : Int) ⟨wsl, (kq : Int), false, fs⟩ (t + 1) = wdP ((BB : Nat) : Int) ⟨wsl, (kq : Int), false, fs⟩ t ++ [v + ((BB : Nat) : Int)]) := hid (by rw [wdP_next]; simp only; rw [hv]; rw [if_pos (by simp [ho])])
                  have hbQ : Below wr.heap.size wr (wr.alloc (.cells #[.int .i64 (v + ((BB : Nat) : Int))] 3)) := (Below.refl _ _).alloc (Nat.le_refl _) _
                  have HP := hid (sl_int wr wr.heap.size (v + ((BB : Nat) : Int)) rfl)
                  have HWr := hid (HW.out.below hbQ).row
                  have hsQ : W1.heap.size ≤ (wr.alloc (.cells #[.int .i64 (v + ((BB : Nat) : Int))] 3)).heap.size := by have := hbt.size; simp; omega
                  have hbR := next hbt hbQ
                  have HGQ : Hid (∀ w5, (wr.alloc (.cells #[.int .i64 (v + ((BB : Nat) : Int))] 3)).grownBy w5 (Value.slice b3 (t + 1) c3).ownBlock → Below W1.heap.size W1 w5) := hid (fun w5 hg => hbR.grown hg hsQ (fun k hk => (HW.out.row.lt k hk).1))
                  have h8 : (t + 1 + 1) * 8 ≤ 140737488355328 := by omega
                  have x9 : IntKind.i64.wrap ((t : Int) + 1) = ((t + 1 : Nat) : Int) := by rw [IntWalk.i64_in _ ⟨by omega, by omega⟩]; omega
                  obtain ⟨L3, hL3⟩ : ∃ L3, wdP ((BB : Nat) : Int) ⟨wsl, (kq : Int), false, fs⟩ t = L3 := ⟨_, rfl⟩
                  rw [hL3] at HWr HNX
                  clear HW hv hL3 ho
                  go_wp2_with (at_builtin; refine append_il rfl (.tmp 99) (.tmp 101) rfl W1.heap.size _ (t + 1) L3 rfl HWr.out (some ⟨wr.heap.size, 0, none⟩) 1 1 [v + ((BB : Nat) : Int)] rfl HP.out h8 hsQ ?_; intro b5 c5 w5 ho5 hg5 _; have HO5 := hid ho5; have HB5 := hid (HGQ.out w5 hg5); clear ho5 hg5)
                  go_roundw
                  case rel => exact ⟨t + 1, b5, c5, by omega, rfl, rfl, by rw [HNX.out]; exact HO5, HB5.out⟩
                  case measure => simp [intOf]; omega
                · have r2 : (((t % 2 : Nat) : Int) == 1) = false := by simp; omega
                  have HNX : Hid (wdP ((BB : Nat) : Int) ⟨wsl, (kq : Int), false, fs⟩ (t + 1) = wdP ((BB : Nat) : Int) ⟨wsl, (kq : Int), false, fs⟩ t ++ [v]) := hid (by rw [wdP_next]; simp only; rw [hv]; rw [if_neg (fun c => ho c.2)])
                  have hbQ : Below wr.heap.size wr (wr.alloc (.cells #[.int .i64 (v)] 3)) := (Below.refl _ _).alloc (Nat.le_refl _) _
                  have HP := hid (sl_int wr wr.heap.size (v) rfl)
                  have HWr := hid (HW.out.below hbQ).row
                  have hsQ : W1.heap.size ≤ (wr.alloc (.cells #[.int .i64 (v)] 3)).heap.size := by have := hbt.size; simp; omega
                  have hbR := next hbt hbQ
                  have HGQ : Hid (∀ w5, (wr.alloc (.cells #[.int .i64 (v)] 3)).grownBy w5 (Value.slice b3 (t + 1) c3).ownBlock → Below W1.heap.size W1 w5) := hid (fun w5 hg => hbR.grown hg hsQ (fun k hk => (HW.out.row.lt k hk).1))
                  have h8 : (t + 1 + 1) * 8 ≤ 140737488355328 := by omega
                  have x9 : IntKind.i64.wrap ((t : Int) + 1) = ((t + 1 : Nat) : Int) := by rw [IntWalk.i64_in _ ⟨by omega, by omega⟩]; omega
                  obtain ⟨L3, hL3⟩ : ∃ L3, wdP ((BB : Nat) : Int) ⟨wsl, (kq : Int), false, fs⟩ t = L3 := ⟨_, rfl⟩
                  rw [hL3] at HWr HNX
                  clear HW hv hL3 ho
                  go_wp2_with (at_builtin; refine append_il rfl (.tmp 99) (.tmp 101) rfl W1.heap.size _ (t + 1) L3 rfl HWr.out (some ⟨wr.heap.size, 0, none⟩) 1 1 [v] rfl HP.out h8 hsQ ?_; intro b5 c5 w5 ho5 hg5 _; have HO5 := hid ho5; have HB5 := hid (HGQ.out w5 hg5); clear ho5 hg5)
                  go_roundw
                  case rel => exact ⟨t + 1, b5, c5, by omega, rfl, rfl, by rw [HNX.out]; exact HO5, HB5.out⟩
                  case measure => simp [intOf]; omega
              · obtain rfl : 2 * kq = t := by omega
                have hti : ¬ (((2 * kq : Nat) : Int) < ((2 * kq : Nat) : Int)) := by omega
                have HZ0 : Hid (Own .i64 3 W1.heap.size wr b3 (2 * kq + 1) c3 (pzL (wdP ((BB : Nat) : Int) ⟨wsl, (kq : Int), false, fs⟩ (2 * kq)) (2 * kq + 1))) := hid (by
                  have e := pzL_zero (wdP ((BB : Nat) : Int) ⟨wsl, (kq : Int), false, fs⟩ (2 * kq))
                  rw [wdP_len] at e
                  rw [e]; exact HW.out)
                have HPN : Hid (∀ m, 2 * kq + 1 ≤ m → pzL (wdP ((BB : Nat) : Int) ⟨wsl, (kq : Int), false, fs⟩ (2 * kq)) (m + 1) = pzL (wdP ((BB : Nat) : Int) ⟨wsl, (kq : Int), false, fs⟩ (2 * kq)) m ++ [0]) := hid (fun m hm => pzL_next (by rw [wdP_len]; exact hm))
                have HPE : Hid (pzL (wdP ((BB : Nat) : Int) ⟨wsl, (kq : Int), false, fs⟩ (2 * kq)) 16 = ndW l j i) := hid (by
                  rw [← HNW.out, ← pzL_16]
                  have e : wsl.length = 2 * kq := HOw1.out.len
                  simp only [e])
                obtain ⟨PL, hPL⟩ : ∃ PL, wdP ((BB : Nat) : Int) ⟨wsl, (kq : Int), false, fs⟩ (2 * kq) = PL := ⟨_, rfl⟩
                rw [hPL] at HZ0 HPN HPE
                clear HW hPL HHD HNW
                go_wp2
                go_loopw [16] (fun s16 wr => ∃ (m : Nat) (b3 : Option Addr) (c3 : Nat), 2 * kq + 1 ≤ m ∧ m ≤ 16 ∧ s16 = .slice b3 m c3 ∧ Hid (Own .i64 3 W1.heap.size wr b3 m c3 (pzL PL m)) ∧ Below W1.heap.size W1 wr) (fun s16 _ => 16 - slLen s16)
                case atStart => exact ⟨2 * kq + 1, b3, c3, Nat.le_refl _, by omega, rfl, HZ0, hbt⟩
                case round =>
                  clear HZ0 q1 q2 q3 q4 hbt
                  obtain ⟨m, b3, c3, hm1, hm2, rfl, HW, hbt⟩ := hrel
                  by_cases hlm : m < 16
                  · have hmi : (m : Int) < 16 := by omega
                    have HNX := hid (HPN.out m hm1)
                    have hbQ : Below wr.heap.size wr (wr.alloc (.cells #[.int .i64 0] 3)) := (Below.refl _ _).alloc (Nat.le_refl _) _
                    have HP := hid (sl_int wr wr.heap.size 0 rfl)
                    have HWr := hid (HW.out.below hbQ).row
                    have hsQ : W1.heap.size ≤ (wr.alloc (.cells #[.int .i64 0] 3)).heap.size := by have := hbt.size; simp; omega
                    have hbR := next hbt hbQ
                    have HGQ : Hid (∀ w5, (wr.alloc (.cells #[.int .i64 0] 3)).grownBy w5 (Value.slice b3 m c3).ownBlock → Below W1.heap.size W1 w5) := hid (fun w5 hg => hbR.grown hg hsQ (fun k hk => (HW.out.row.lt k hk).1))
                    have h8 : (m + 1) * 8 ≤ 140737488355328 := by omega
                    clear HW
                    go_wp2_with (at_builtin; refine append_il rfl (.tmp 106) (.tmp 107) rfl W1.heap.size _ m (pzL PL m) rfl HWr.out (some ⟨wr.heap.size, 0, none⟩) 1 1 [0] rfl HP.out h8 hsQ ?_; intro b5 c5 w5 ho5 hg5 _; have HO5 := hid ho5; have HB5 := hid (HGQ.out w5 hg5); clear ho5 hg5)
                    go_roundw
                    case rel => exact ⟨m + 1, b5, c5, by omega, by omega, rfl, by rw [HNX.out]; exact HO5, HB5.out⟩
                    case measure => simp [slLen]; omega
                  · obtain rfl : m = 16 := by omega
                    have hW := HW.out
                    rw [HPE.out] at hW
                    have cO := refof_any b3 16 c3 (ndW l j i) wr hW.sl (by omega)
                    rw [ofE_t HFT1.out, ofR_t HFT1.out] at cO
                    have hbw := next hbi1 hbt
                    have HOr := hid (HO1.out.below hbt)
                    have hn13 : bsS n q + i ≤ 13 := by omega
                    have hmi : ¬ ((16 : Int) < 16) := by omega
                    have HAP : Hid (∀ w6 mb cb (bb : Option Addr), Own .u8 5 wr.heap.size w6 bb mb cb (ofL (ndW l j i)) → Below wr.heap.size wr w6 → mb = 128 ∧ Sl .u8 w6 bb mb cb (ofL (ndW l j i)) ∧ Own .u8 5 w2.heap.size w6 bo (128 * (bsS n q + i)) c (byQ l q i) ∧ Below w2.heap.size w2 w6) := hid (fun w6 mb cb bb ho hb6 => by
                      refine ⟨?_, ho.sl, HOr.out.below hb6, next hbw hb6⟩
                      have := ho.len
                      rw [ofL_length, ndW_len] at this
                      omega)
                    have hsz2 := hbw.size
                    have hbs128 : 128 * (bsS n q + i) + 128 = 128 * (bsS n q + (i + 1)) := by omega
                    have H128 := hid hbs128
                    obtain ⟨QL, hQL⟩ : ∃ QL, byQ l q i = QL := ⟨_, rfl⟩
                    rw [hQL] at HAP HBN1
                    obtain ⟨NL, hNL⟩ : ∃ NL, ofL (ndW l j i) = NL := ⟨_, rfl⟩
                    rw [hNL] at HAP HBN1 cO
                    obtain ⟨m8, hm8⟩ : ∃ m8, 128 * (bsS n q + i) = m8 := ⟨_, rfl⟩
                    have HM8 := hid hm8
                    rw [hm8] at HAP ⊢
                    have hm8b : m8 + 128 ≤ 140737488355328 := by omega
                    clear HW hW hQL hNL HPN HPE HOr hbs128 hm8 HO1 HO
                    go_wp2_with (first
                      | (go_at_call 34; with_reducible refine cO.mono ?_; rintro e w6 ⟨bb, mb, cb, rfl, ho6, hb6⟩; obtain ⟨e8, hsl6, how6, hbw6⟩ := HAP.out w6 mb cb bb ho6 hb6; subst e8; have HSL := hid hsl6; have HWR := hid how6.row; have hs6 := hbw6.size; have HG6 : Hid (∀ w7, w6.grownBy w7 (Value.slice bo m8 c).ownBlock → Below w2.heap.size w2 w7) := hid (fun w7 hg => hbw6.grown hg hs6 (fun k hk => (how6.row.lt k hk).1)); clear ho6 hsl6 how6)
                      | (at_builtin; refine append_sl rfl (.tmp 114) (.tmp 115) rfl w2.heap.size _ m8 QL rfl HWR.out bb 128 cb NL rfl HSL.out hm8b hs6 ?_; intro b7 c7 w7 ho7 hg7 _; have HO7 := hid ho7; have HB7 := hid (HG6.out w7 hg7); clear ho7 hg7))
                    go_roundw
                    case rel => exact ⟨i + 1, b7, c7, by omega, by rw [← H128.out, HM8.out], rfl, by rw [← H128.out, HM8.out, HBN1.out]; exact HO7, HB7.out⟩
                    case measure => simp [intOf]; omega
        · obtain rfl : lvC n j = i := by omega
          have hii : ¬ (((lvC n j : Nat) : Int) < ((lvC n j : Nat) : Int)) := by omega
          have x2 : IntKind.i64.wrap ((q : Int) + 1) = ((q + 1 : Nat) : Int) := by rw [IntWalk.i64_in _ ⟨by omega, by omega⟩]; omega
          have HOX : Hid (Own .u8 5 w2.heap.size wb bo (128 * BB) c (byQ l (q + 1) 0)) := hid (by rw [← HBA.out]; have := HO.out; rwa [← HBQ.out] at this)
          have HBQ2 := HBQ
          rw [← HBQ.out]
          clear hN0 hx0 HO
          go_wp2
          go_roundw
          case rel => exact ⟨q + 1, bo, c, by omega, by rw [HBB.out], by rw [HBB.out], rfl, by rw [HBB.out]; exact HOX, hbi⟩
          case measure => simp [intOf]; omega
    · have hqe : q = hgt n + 1 := by omega
      have hqi : ¬ ((q : Int) < ((hgt n + 1 : Nat) : Int)) := by omega
      have hqi' : ¬ ((q : Int) < (hgt n : Int) + 1) := by omega
      have hle : bsS n q ≤ room := by
        have h1 := trQ_len l (hgt l.length + 1)
        rw [trQ_all, hl] at h1
        rw [hqe, ← h1]; exact HTL.out
      have HEN : Hid (pzL (byQ l q 0) (128 * room) = ofL (trW room l)) := hid (by have := byQ_end (l := l) (room := room) HTL.out; rw [hl] at this; rw [hqe]; exact this)
      have hln : (byQ l q 0).length = 128 * bsS n q := HO.out.len
      have HZ0 : Hid (Own .u8 5 w2.heap.size wa bo (128 * bsS n q) c (pzL (byQ l q 0) (128 * bsS n q))) := hid (by rw [← hln, pzL_zero, hln]; exact HO.out)
      have HPN : Hid (∀ m, 128 * bsS n q ≤ m → pzL (byQ l q 0) (m + 1) = pzL (byQ l q 0) m ++ [0]) := hid (fun m hm => pzL_next (by rw [hln]; exact hm))
      have x5 : IntKind.i64.wrap (128 * (room : Int)) = ((128 * room : Nat) : Int) := by rw [IntWalk.i64_in _ ⟨by omega, by omega⟩]; omega
      generalize byQ l q 0 = PL at *
      clear HO hqe hln HLV HBS
      obtain ⟨m0, hm0⟩ : ∃ m0, 128 * bsS n q = m0 := ⟨_, rfl⟩
      have hm0r : m0 ≤ 128 * room := by omega
      rw [hm0] at HZ0 HPN ⊢
      clear hm0 hle
      go_wp2
      go_loopw [10] (fun s10 wr => ∃ (m : Nat) (bo : Option Addr) (c : Nat), m0 ≤ m ∧ m ≤ 128 * room ∧ s10 = .slice bo m c ∧ Hid (Own .u8 5 w2.heap.size wr bo m c (pzL PL m)) ∧ Below w2.heap.size w2 wr) (fun s10 _ => 128 * room - slLen s10)
      case atStart => exact ⟨m0, bo, c, Nat.le_refl _, hm0r, rfl, HZ0, hb⟩
      case round =>
        clear HZ0
        obtain ⟨m, bo, c, hm1, hm2, rfl, HW, hbm⟩ := hrel
        by_cases hlm : m < 128 * room
        · have hmi : (m : Int) < ((128 * room : Nat) : Int) := by omega
          have HNX := hid (HPN.out m hm1)
          have hbQ : Below wr.heap.size wr (wr.alloc (.cells #[.int .u8 0] 5)) := (Below.refl _ _).alloc (Nat.le_refl _) _
          have HP := hid (sl_u8 wr wr.heap.size 0 rfl)
          have HWr := hid (HW.out.below hbQ).row
          have hsQ : w2.heap.size ≤ (wr.alloc (.cells #[.int .u8 0] 5)).heap.size := by have := hbm.size; simp; omega
          have hbR := next hbm hbQ
          have HGQ : Hid (∀ w5, (wr.alloc (.cells #[.int .u8 0] 5)).grownBy w5 (Value.slice bo m c).ownBlock → Below w2.heap.size w2 w5) := hid (fun w5 hg => hbR.grown hg hsQ (fun k hk => (HW.out.row.lt k hk).1))
          have h8 : m + 1 ≤ 140737488355328 := by omega
          clear HW
          go_wp2_with (at_builtin; refine append_sl rfl (.tmp 122) (.tmp 123) rfl w2.heap.size _ m (pzL PL m) rfl HWr.out (some ⟨wr.heap.size, 0, none⟩) 1 1 [0] rfl HP.out h8 hsQ ?_; intro b5 c5 w5 ho5 hg5 _; have HO5 := hid ho5; have HB5 := hid (HGQ.out w5 hg5); clear ho5 hg5)
          go_roundw
          case rel => exact ⟨m + 1, b5, c5, by omega, by omega, rfl, by rw [HNX.out]; exact HO5, HB5.out⟩
          case measure => simp [slLen]; omega
        · have hme : m = 128 * room := by omega
          have hmi : ¬ ((m : Int) < ((128 * room : Nat) : Int)) := by omega
          have HF : Hid (Own .u8 5 w2.heap.size wr bo m c (ofL (trW room l))) := hid (by have := HW.out; rw [hme, HEN.out] at this; rw [hme]; exact this)
          clear HW hme HPN HEN
          go_wp2
          go_ret2
          exact ⟨bo, m, c, rfl, HF.out.mono hbw2.size, next hbw2 hbm⟩
end Go.Proofs.Ythkloknongkpdaa
/- joistref14.Write by its contract. -/
namespace Go.Proofs.Ythkloknongkpdaa
set_option maxRecDepth 100000
open Go.RowKit
set_option linter.unusedVariables false
set_option linter.unusedSimpArgs false
set_option maxRecDepth 100000

theorem rwrite_arg (P room : Int) (ao : Option Addr) (n cap : Nat) (l : List Blk) (w : World) (h : Bs w ao n cap l) (hn : n ≤ 9223372036854775807) (hr : ¬ RightX P l) :
    Calls Try.prog 19 #[.int .i64 P, .int .i64 room, .slice ao n cap] w fun e w' => ∃ bo m c, e = .returned (.tuple #[.slice bo m c, .int .i64 1]) ∧ Own .u8 5 w.heap.size w' bo m c [] ∧ Below w.heap.size w w' := by
  have cR := rrightX_bs P ao n cap l w h hn
  rw [rxB_f hr] at cR
  clear h hr
  go_enter Try.func19, Try.ntmps19
  go_wp2_with (first
    | (go_at_call 15; with_reducible refine cR.mono ?_; rintro e w1 ⟨rfl, hb1⟩))
  go_ret2
  exact ⟨none, 0, 0, rfl, own_nil _ _ _ _, hb1⟩
theorem rwrite_long (P room : Int) (ao : Option Addr) (n cap : Nat) (l : List Blk) (w : World) (h : Bs w ao n cap l) (hr : RightX P l) (hm : ¬ RoomX room l) :
    Calls Try.prog 19 #[.int .i64 P, .int .i64 room, .slice ao n cap] w fun e w' => ∃ bo m c, e = .returned (.tuple #[.slice bo m c, .int .i64 2]) ∧ Own .u8 5 w.heap.size w' bo m c [] ∧ Below w.heap.size w w' := by
  have hl := h.len
  have hn : n ≤ 64 := by have := hr.n64; omega
  have cR := rrightX_bs P ao n cap l w h (by omega)
  rw [rxB_t hr] at cR
  have cN := fun w' => rnodes_any (n : Int) (by omega) w'
  have cM := fun w' => rnodes_any 64 (by omega) w'
  simp only [nt_64] at cM
  have hd : room < ntN (n : Int) ∨ (¬ room < ntN (n : Int) ∧ 13 < room) := by
    unfold RoomX at hm
    rw [hl] at hm
    omega
  generalize ntN (n : Int) = nn at *
  clear h hr hm
  rcases hd with d | ⟨d, d2⟩
  · go_enter Try.func19, Try.ntmps19
    go_wp2_with (first
      | (go_at_call 15; with_reducible refine cR.mono ?_; rintro e w1 ⟨rfl, hb1⟩)
      | (go_at_call 17; with_reducible refine (cN _).mono ?_; rintro e w' ⟨rfl, rfl⟩)
      | (go_at_call 17; with_reducible refine (cM _).mono ?_; rintro e w' ⟨rfl, rfl⟩))
    go_ret2
    exact ⟨none, 0, 0, rfl, own_nil _ _ _ _, hb1⟩
  · go_enter Try.func19, Try.ntmps19
    go_wp2_with (first
      | (go_at_call 15; with_reducible refine cR.mono ?_; rintro e w1 ⟨rfl, hb1⟩)
      | (go_at_call 17; with_reducible refine (cN _).mono ?_; rintro e w' ⟨rfl, rfl⟩)
      | (go_at_call 17; with_reducible refine (cM _).mono ?_; rintro e w' ⟨rfl, rfl⟩))
    go_ret2
    exact ⟨none, 0, 0, rfl, own_nil _ _ _ _, hb1⟩
/-- joistref14.Write. -/
theorem rwrite_bs (P room : Int) (ao : Option Addr) (n cap : Nat) (l : List Blk) (w : World) (h : Bs w ao n cap l) (hn : n ≤ 9223372036854775807) :
    Calls Try.prog 19 #[.int .i64 P, .int .i64 room, .slice ao n cap] w fun e w' => ∃ bo m c, e = .returned (.tuple #[.slice bo m c, .int .i64 (wtE P room l)]) ∧ Own .u8 5 w.heap.size w' bo m c (wtL P room l) ∧ Below w.heap.size w w' := by
  by_cases hr : RightX P l
  · by_cases hm : RoomX room l
    · obtain ⟨e1, e2⟩ := wt_ok hr hm
      rw [e1, e2]
      have h0 := (hm.nodes hr).2.1
      obtain ⟨k, rfl⟩ : ∃ k : Nat, room = (k : Int) := ⟨room.toNat, by omega⟩
      exact rwrite_in P k ao n cap l w h hr hm
    · obtain ⟨e1, e2⟩ := wt_long hr hm
      rw [e1, e2]
      exact rwrite_long P room ao n cap l w h hr hm
  · obtain ⟨e1, e2⟩ := wt_arg (room := room) hr
    rw [e1, e2]
    exact rwrite_arg P room ao n cap l w h hn hr
end Go.Proofs.Ythkloknongkpdaa
