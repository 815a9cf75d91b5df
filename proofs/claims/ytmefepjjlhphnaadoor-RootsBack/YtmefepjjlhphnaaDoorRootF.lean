/- roots.Read by its contract. -/
import Derived.Test.YtmefepjjlhphnaaDoorRootE
namespace Go.Proofs.YtmefepjjlhphnaaDoor
set_option maxRecDepth 100000
open Go.RowKit
set_option linter.unusedVariables false
set_option linter.unusedSimpArgs false
set_option maxRecDepth 100000

/-- So many read. -/
def rtK (zs : List Int) (q k : Nat) : List Rt := (List.range q).map fun j => if j < k then rtW (chk zs j) else Rt.z
theorem rtK_length (zs : List Int) (q k : Nat) : (rtK zs q k).length = q := by simp [rtK]
theorem rtK_zero (zs : List Int) (q : Nat) : rtK zs q 0 = List.replicate q Rt.z := by
  unfold rtK
  apply List.ext_getElem?
  intro i
  simp [List.getElem?_range, List.getElem?_replicate]
  by_cases h : i < q <;> simp [h]
theorem rtK_set (zs : List Int) (q k : Nat) : (rtK zs q k).set k (rtW (chk zs k)) = rtK zs q (k + 1) := by
  apply List.ext_getElem?
  intro i
  by_cases hi : i < q
  · by_cases e : k = i
    · subst e
      rw [List.getElem?_set_self (by rw [rtK_length]; exact hi)]
      simp [rtK, hi]
    · rw [List.getElem?_set_ne e]
      simp only [rtK, List.getElem?_map, List.getElem?_range hi, Option.map_some]
      by_cases h1 : i < k
      · rw [if_pos h1, if_pos (by omega)]
      · rw [if_neg h1, if_neg (by omega)]
  · rw [List.getElem?_eq_none (by rw [List.length_set, rtK_length]; omega), List.getElem?_eq_none (by rw [rtK_length]; omega)]
theorem rtK_full (zs : List Int) (q : Nat) (hq : zs.length / 32 = q) : rtK zs q q = rtL zs := by
  unfold rtK rtL
  rw [hq]
  apply List.map_congr_left
  intro j hj
  rw [if_pos (List.mem_range.1 hj)]
theorem Sl.chunk {w : World} {b off n cap : Nat} {zs : List Int} (h : Sl .u8 w (some ⟨b, off, none⟩) n cap zs) {k : Nat} (hk : k * 32 + 32 ≤ n) : Sl .u8 w (some ⟨b, off + k * 32, none⟩) 32 (cap - k * 32) (chk zs k) := by
  have hroom := h.room
  have hs := h.sliced (k * 32) (k * 32 + 32) (by omega) hk
  rw [if_neg (by omega), show k * 32 + 32 - k * 32 = 32 by omega] at hs
  rw [show (Option.map (fun x => x.add (k * 32 * 1)) (some (⟨b, off, none⟩ : Addr))) = some ⟨b, off + k * 32, none⟩ by simp [Addr.add_lit]] at hs
  exact hs
theorem hidR {p : Prop} (h : p) : Hid p := h
theorem r3_new' (w : World) (nm : ByteArray) (ix gn : Int) : (w.alloc (.cells #[.string nm, .int .i64 ix, .int .i64 gn] 45)).cell? ⟨w.heap.size, 0, none⟩ = some (.string nm) ∧ (w.alloc (.cells #[.string nm, .int .i64 ix, .int .i64 gn] 45)).cell? ⟨w.heap.size, 1, none⟩ = some (.int .i64 ix) ∧ (w.alloc (.cells #[.string nm, .int .i64 ix, .int .i64 gn] 45)).cell? ⟨w.heap.size, 2, none⟩ = some (.int .i64 gn) := by
  obtain ⟨a, b, c⟩ := r3_new w ⟨nm, ix, gn⟩
  exact ⟨a, b, c⟩
set_option maxHeartbeats 2000000 in
theorem readR_words (b off n cap : Nat) (zs : List Int) (w : World) (h : Sl .u8 w (some ⟨b, off, none⟩) n cap zs) (hby : Bytes zs) (hcap : cap ≤ 9223372036854775807) (q : Nat) (hq : n = q * 32) (hs : SizR (q : Int)) :
    Calls Tryd.prog 9 #[.slice (some ⟨b, off, none⟩) n cap] w fun e w' => ∃ bo m c, e = .returned (.tuple #[.slice bo m c, .bool (rrB zs)]) ∧ OwR w.heap.size w' bo m c (rrL zs) ∧ Below w.heap.size w w' := by
  have hl := h.len
  have hroom := h.room
  obtain ⟨s1, s2, s3⟩ := hs
  have hq8 : q ≤ 8 := by omega
  have hqd : zs.length / 32 = q := by omega
  have cS := sizedR_any (q : Int)
  rw [sizRB_t ⟨s1, s2, s3⟩] at cS
  have h32' : ((n : Int) % 32 != 0) = false := by simp; omega
  have hdiv : (n : Int) / 32 = (q : Int) := by omega
  obtain ⟨i0, hi, hz0, hz1, hz2⟩ := info_parts Tryd.info45
  have HQ := hid hq
  have Hh := hid h
  have hn256 : n ≤ 256 := by omega
  clear hq h
  go_enter Tryd.func9, Tryd.ntmps9
  go_wp2_with (first
    | (go_at_call 20; with_reducible refine (cS _).mono ?_; rintro e w' ⟨rfl, rfl⟩)
    | (at_make; refine wpList_make_full _ rfl _ _ 22 rfl w.heap.size 45 i0 (.agg #[.string ⟨#[]⟩, .int .i64 0, .int .i64 0]) 3 Tryd.underlying22 hi hz0 hz1 .i64 .i64 _ _ q rfl rfl ?b0 ?b1 ?b2 ?b3 ?b4 ?_))
  case b0 => rfl
  case b1 => rfl
  case b2 => rw [hz2]; omega
  case b3 => unfold maxLen; omega
  case b4 => exact Nat.le_refl _
  intro w1 hown hgrow
  have b1 : Below w.heap.size w w1 := (Below.refl _ _).grown hgrow (Nat.le_refl _) (by intro k hk; cases hk)
  have o1 : OwR w.heap.size w1 (some ⟨w.heap.size, 0, none⟩) q q (rtK zs q 0) := ⟨rtK_length _ _ _, by rw [rtK_zero, ← made_roots]; exact hown, fun s hs => by rw [rtK_zero] at hs; rw [List.eq_of_mem_replicate hs]; exact rgr_z⟩
  clear hgrow hi hz0 hz1 hz2 hown cS h32'
  go_wp2
  go_loopw [25] (fun t wr => ∃ k : Nat, k ≤ q ∧ t = .int .i64 k ∧ OwR w.heap.size wr (some ⟨w.heap.size, 0, none⟩) q q (rtK zs q k) ∧ Hid (∀ j, j < k → Rd1 (chk zs j)) ∧ Below w.heap.size w wr) (fun t _ => q - (intOf t).toNat)
  case atStart => exact ⟨0, Nat.zero_le _, rfl, o1, hid (fun j hj => by omega), b1⟩
  case round =>
    obtain ⟨k, hk, rfl, ho, HK, hb⟩ := hrel
    clear o1 b1
    by_cases hlt : k < q
    · have hki : (k : Int) < (q : Int) := by omega
      have hk32 : k * 32 + 32 ≤ n := by rw [HQ.out]; omega
      have cR := read_rt b (off + k * 32) (cap - k * 32) (chk zs k) wr ((Hh.out.below hb).chunk hk32) (chk_bytes hby k) (by omega)
      have e0 : ((k : Int) * 32).toNat = k * 32 := by omega
      have e1 : (((k : Int) + 1) * 32).toNat = k * 32 + 32 := by omega
      have e2 : ¬ (cap = k * 32) := by omega
      have e3 : k * 32 + 32 - k * 32 = 32 := by omega
      have e4 : (k : Int) * 32 ≤ ((k : Int) + 1) * 32 := by omega
      have e5 : ((k : Int) + 1) * 32 ≤ (n : Int) := by omega
      have e6 : k * 32 + 32 ≤ cap := by omega
      have e7 : ((k : Int) + 1) * 32 ≤ (cap : Int) := by omega
      have hgw : w.heap.size < wr.heap.size := (ho.row.lt w.heap.size rfl).2
      by_cases hd : Rd1 (chk zs k)
      · rw [rd1B_t hd] at cR
        have cR' := cR.mono (R' := fun e w' => e = .returned (.tuple #[.agg #[.string (rtW (chk zs k)).nm, .int .i64 (rtW (chk zs k)).ix, .int .i64 (rtW (chk zs k)).gn], .bool true]) ∧ RgR (rtW (chk zs k)) ∧ Below wr.heap.size wr w') (by
          rintro e w' ⟨r, rfl, hr, hg, hb'⟩
          rw [← hr rfl]
          exact ⟨rfl, hg, hb'⟩)
        have HN : Hid (∀ j, j < k + 1 → Rd1 (chk zs j)) := fun j hj => by
          by_cases e : j = k
          · rw [e]; exact hd
          · exact HK.out j (by omega)
        have Hset : Hid (∀ w4, Below wr.heap.size wr w4 → RgR (rtW (chk zs k)) → OwR w.heap.size (((w4.setCell ⟨w.heap.size, k * 3, none⟩ (.string (rtW (chk zs k)).nm)).setCell ⟨w.heap.size, k * 3 + 1, none⟩ (.int .i64 (rtW (chk zs k)).ix)).setCell ⟨w.heap.size, k * 3 + 2, none⟩ (.int .i64 (rtW (chk zs k)).gn)) (some ⟨w.heap.size, 0, none⟩) q q (rtK zs q (k + 1))) := fun w4 hb4 hg => by
          have := (ho.below hb4).set hlt hg
          rwa [rtK_set] at this
        have Hcell : Hid (∀ w4, Below wr.heap.size wr w4 → R3 w4 w.heap.size (k * 3) (ra (rtK zs q k) k) ∧ ∀ j, w4.frozen? ⟨w.heap.size, j, none⟩ = false) := fun w4 hb4 => by
          have := (ho.below hb4).rs.at (Below.refl _ _) hlt
          rw [Nat.zero_add] at this
          exact ⟨this, (ho.below hb4).free⟩
        clear ho HK hd cR
        generalize rtW (chk zs k) = r at *
        generalize ra (rtK zs q k) k = r0 at *
        obtain ⟨nm, ix, gn⟩ := r
        simp only at cR' Hset
        go_wp2_with (first
          | (go_at_call 21; with_reducible refine cR'.mono ?_; rintro e w4 ⟨rfl, hg, hb4⟩; have Hg := hidR hg; have hb5 := nextR' hb4 (.cells #[.string nm, .int .i64 ix, .int .i64 gn] 45); obtain ⟨y0, y1, y2⟩ := r3_new' w4 nm ix gn; obtain ⟨⟨d0, d1, d2⟩, fr⟩ := Hcell.out _ hb5; have f0 := fr (k * 3); have f1 := fr (k * 3 + 1); have f2 := fr (k * 3 + 2)))
        go_roundw
        case rel => exact ⟨k + 1, by omega, by go_num, Hset.out _ hb5 Hg.out, HN, (((next hb hb5).setCell (Nat.le_refl _) _).setCell (Nat.le_refl _) _).setCell (Nat.le_refl _) _⟩
        case measure => simp [intOf]; omega
      · rw [rd1B_f hd] at cR
        have hno : ¬ RdR zs := fun e => hd (e.rd1 (by omega))
        have HD := hid (rr_f hno)
        clear ho HK hd hno
        go_wp2_with (first
          | (go_at_call 21; with_reducible refine cR.mono ?_; rintro e w4 ⟨r, rfl, hrt, hg, hb4⟩; clear hrt hg))
        go_ret2
        exact ⟨none, 0, 0, by rw [HD.out.1]; rfl, by rw [HD.out.2]; exact owR_nil _ _, (next hb hb4).alloc (next hb hb4).size _⟩
    · obtain rfl : k = q := by omega
      have hki : ¬ ((k : Int) < (k : Int)) := by omega
      rw [rtK_full zs k hqd] at ho
      have cR := rightR_rs _ k k (rtL zs) wr ho.rs (by omega)
      by_cases hr : RightR (rtL zs)
      · rw [rightRB_t hr] at cR
        have hok : RdR zs := rdR_of hby (by have := HQ.out; omega) (fun j hj => HK.out j (by omega)) hr
        have HD := hid (rr_t hok)
        have Ho := hid ho
        clear hok hr ho HK
        go_wp2_with (first
          | (go_at_call 15; with_reducible refine cR.mono ?_; rintro e w4 ⟨rfl, hb4⟩))
        go_ret2
        exact ⟨_, _, _, by rw [HD.out.1]; rfl, by rw [HD.out.2]; exact Ho.out.below hb4, next hb hb4⟩
      · rw [rightRB_f hr] at cR
        have hno : ¬ RdR zs := fun e => hr e.1
        have HD := hid (rr_f hno)
        clear hno hr ho HK
        go_wp2_with (first
          | (go_at_call 15; with_reducible refine cR.mono ?_; rintro e w4 ⟨rfl, hb4⟩))
        go_ret2
        exact ⟨none, 0, 0, by rw [HD.out.1]; rfl, by rw [HD.out.2]; exact owR_nil _ _, next hb hb4⟩
/-- roots.Read. -/
theorem readR_any (ao : Option Addr) (n cap : Nat) (zs : List Int) (w : World) (h : Sl .u8 w ao n cap zs) (hby : Bytes zs) (hcap : cap ≤ 9223372036854775807) :
    Calls Tryd.prog 9 #[.slice ao n cap] w fun e w' => ∃ bo m c, e = .returned (.tuple #[.slice bo m c, .bool (rrB zs)]) ∧ OwR w.heap.size w' bo m c (rrL zs) ∧ Below w.heap.size w w' := by
  have hl := h.len
  have hroom := h.room
  by_cases h32 : n % 32 = 0
  · by_cases hs : SizR ((n / 32 : Nat) : Int)
    · have := hs.1
      obtain ⟨b, off, rfl, _, _⟩ := h.here (by omega)
      exact readR_words b off n cap zs w h hby hcap (n / 32) (by omega) hs
    · have hok : ¬ RdR zs := fun e => hs (by have := e.size.2; rwa [hl] at this)
      rw [(rr_f hok).1, (rr_f hok).2]
      have cS := sizedR_any ((n : Int) / 32)
      rw [sizRB_f (by rw [show (n : Int) / 32 = ((n / 32 : Nat) : Int) by omega]; exact hs)] at cS
      have h32' : ((n : Int) % 32 != 0) = false := by simp; omega
      clear hs h hok
      go_enter Tryd.func9, Tryd.ntmps9
      go_wp2_with (first
        | (go_at_call 20; with_reducible refine (cS _).mono ?_; rintro e w' ⟨rfl, rfl⟩))
      go_ret2
      exact ⟨none, 0, 0, rfl, owR_nil _ _, Below.refl _ _⟩
  · have hok : ¬ RdR zs := fun e => h32 (by have := e.size.1; rwa [hl] at this)
    rw [(rr_f hok).1, (rr_f hok).2]
    have h32' : ((n : Int) % 32 != 0) = true := by simp; omega
    clear h hok
    go_enter Tryd.func9, Tryd.ntmps9
    go_wp2
    go_ret2
    exact ⟨none, 0, 0, rfl, owR_nil _ _, Below.refl _ _⟩
end Go.Proofs.YtmefepjjlhphnaaDoor
