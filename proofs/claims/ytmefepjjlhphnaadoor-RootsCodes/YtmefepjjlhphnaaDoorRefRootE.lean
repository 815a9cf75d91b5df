/- joistref09.Read by its contract. -/
import Derived.Test.YtmefepjjlhphnaaDoorRefRootD
import Derived.Test.YtmefepjjlhphnaaDoorRootF
import Derived.Test.YtmefepjjlhphnaaDoorRefNRead
import Derived.Test.YtmefepjjlhphnaaDoorRefGet
namespace Go.Proofs.YtmefepjjlhphnaaDoor
set_option maxRecDepth 100000
open Go.RowKit
set_option linter.unusedVariables false
set_option linter.unusedSimpArgs false
set_option maxRecDepth 100000

theorem wN_fit {l : List Int} (h : Bytes l) : 0 ≤ wN l ∧ wN l ≤ 4611686018427387903 := by
  unfold wN
  have := (le_bound h).1
  split <;> omega
theorem getN_fit {c : List Int} (h : Bytes c) (n : Int) : 0 ≤ getN c n ∧ getN c n ≤ 4611686018427387903 := by
  unfold getN
  split
  · exact wN_fit (cut_bytes h _)
  · omega
theorem Sl.half {w : World} {b off n cap : Nat} {zs : List Int} (h : Sl .u8 w (some ⟨b, off, none⟩) n cap zs) {i k : Nat} (hi : i = k * 32) (hk : k * 32 + 32 ≤ n) : Sl .u8 w (some ⟨b, off + i, none⟩) 16 (cap - i) ((chk zs k).take 16) := by
  subst hi
  exact (h.chunk hk).short 16 (by omega)
theorem Sl.whole {w : World} {b off n cap : Nat} {zs : List Int} (h : Sl .u8 w (some ⟨b, off, none⟩) n cap zs) {i k : Nat} (hi : i = k * 32) (hk : k * 32 + 32 ≤ n) : Sl .u8 w (some ⟨b, off + i, none⟩) 32 (cap - i) (chk zs k) := by
  subst hi
  exact h.chunk hk
theorem rs_one (w : World) (nm : ByteArray) (ix gn : Int) (h : nm.size ≤ 9223372036854775807) : Rs (w.alloc (.cells #[.string nm, .int .i64 ix, .int .i64 gn] 45)) (some ⟨w.heap.size, 0, none⟩) 1 1 [⟨nm, ix, gn⟩] := by
  refine ⟨rfl, Nat.le_refl _, (by intro h; cases h), fun _ => ⟨_, _, rfl, by simp, fun i hi => ?_⟩, fun s hs => ?_⟩
  · obtain rfl : i = 0 := by omega
    exact r3_new w ⟨nm, ix, gn⟩
  · rw [List.mem_singleton] at hs
    subst hs
    exact h
theorem rs_oneA (w : World) (nm : ByteArray) (ix gn : Int) (h : nm.size ≤ 9223372036854775807) : Rs ((w.alloc (.cells #[.int .i64 ix, .int .i64 gn] 41)).alloc (.cells #[.string nm, .int .i64 ix, .int .i64 gn] 45)) (some ⟨w.heap.size + 1, 0, none⟩) 1 1 [⟨nm, ix, gn⟩] := by
  have := rs_one (w.alloc (.cells #[.int .i64 ix, .int .i64 gn] 41)) nm ix gn h
  rwa [show (w.alloc (.cells #[.int .i64 ix, .int .i64 gn] 41)).heap.size = w.heap.size + 1 by simp] at this
/-- The roots of the first k. -/
def rtP (zs : List Int) (k : Nat) : List Rt := (List.range k).map fun j => rtW (chk zs j)
theorem rtP_succ (zs : List Int) (k : Nat) : rtP zs (k + 1) = rtP zs k ++ [rtW (chk zs k)] := by simp [rtP, List.range_succ]
theorem rtP_length (zs : List Int) (k : Nat) : (rtP zs k).length = k := by simp [rtP]
theorem textN_t {a b : List Int} (h : a = b) : ((strOfNums a).toList == (strOfNums b).toList) = true := by rw [h]; simp
theorem textN_f {a b : List Int} (ha : Bytes a) (hb : Bytes b) (h : ¬ a = b) : ((strOfNums a).toList == (strOfNums b).toList) = false := by
  refine eqN_no (fun e => h ?_)
  have h1 := congrArg (fun s : ByteArray => nums s.data.toList) e
  simp only [str_un] at h1
  rw [nums_un ha, nums_un hb] at h1
  exact h1
theorem rtW_size (c : List Int) : (rtW c).nm.size ≤ 9223372036854775807 := by
  unfold rtW
  simp only
  rw [mk_size]
  have h1 := (strip_le (un (c.take 16))).1
  rw [un_length, List.length_take] at h1
  unfold readT
  split
  · omega
  · simp
set_option maxHeartbeats 4000000 in
theorem rreadR_words (ao : Option Addr) (n cap : Nat) (zs : List Int) (w : World) (h : Sl .u8 w ao n cap zs) (hby : Bytes zs) (hcap : cap ≤ 9223372036854775807) (q : Nat) (hq : n = q * 32) (hq8 : q ≤ 8) :
    Calls Tryd.prog 12 #[.slice ao n cap] w fun e w' => ∃ bo m c, e = .returned (.tuple #[.slice bo m c, .bool (rrB zs)]) ∧ OwR w.heap.size w' bo m c (rrL zs) ∧ Below w.heap.size w w' := by
  have hl := h.len
  have hroom := h.room
  have hqd : zs.length / 32 = q := by omega
  have h32' : ((n : Int) % 32 != 0) = false := by simp; omega
  have h256 : ¬ (256 < (n : Int)) := by omega
  have HQ := hid hq
  have Hh := hid h
  have hn256 : n ≤ 256 := by omega
  clear hq h
  go_enter Tryd.func12, Tryd.ntmps12
  go_wp2
  go_loopw [4, 5] (fun s4 s5 wr => ∃ (k i : Nat) (bo : Option Addr) (c : Nat), k ≤ q ∧ i ≤ n ∧ Hid (i = k * 32) ∧ s4 = .slice bo k c ∧ s5 = .int .i64 i ∧ OwR w.heap.size wr bo k c (rtP zs k) ∧ Below w.heap.size w wr) (fun _ s5 _ => n - (intOf s5).toNat)
  case atStart => exact ⟨0, 0, none, 0, Nat.zero_le _, Nat.zero_le _, hid rfl, rfl, rfl, owR_nil _ _, Below.refl _ _⟩
  case round =>
    obtain ⟨k, i, bo, c, hk, hi, HI, rfl, rfl, ho, hb⟩ := hrel
    by_cases hlt : i < n
    · have hii : (i : Int) < (n : Int) := by omega
      have hkq : k < q := by have := HI.out; have := HQ.out; omega
      have hk32 : k * 32 + 32 ≤ n := by rw [HQ.out]; omega
      have hi32 : i + 32 ≤ n := by have := HI.out; omega
      obtain ⟨b, off, rfl, _, _⟩ := Hh.out.here (by omega)
      have cS := refRead_any (some ⟨b, off + i, none⟩) 16 (cap - i) _ wr ((Hh.out.below hb).half HI.out hk32) ((chk_bytes hby k).take 16) (by omega)
      have cG := refget_any (some ⟨b, off + i, none⟩) 32 (cap - i) _ 2 wr ((Hh.out.below hb).whole HI.out hk32) (chk_bytes hby k) (by omega)
      have hf := getN_fit (chk_bytes hby k) 2
      have cO := fun w => refOf_any (getN (chk zs k) 2) w (by omega) (by omega)
      have hsz := rtW_size (chk zs k)
      have HS := hid (rtP_succ zs k)
      have HW : Hid (rtW (chk zs k) = ⟨⟨(readT ((chk zs k).take 16)).toArray⟩, ofI (getN (chk zs k) 2), ofG (getN (chk zs k) 2)⟩) := hid rfl
      generalize rtP zs k = Lk at *
      generalize rtW (chk zs k) = r at *
      generalize ofI (getN (chk zs k) 2) = I at *
      generalize ofG (getN (chk zs k) 2) = G at *
      generalize ofHB (getN (chk zs k) 2) = B at *
      generalize getB (chk zs k) 2 = B2 at *
      generalize getN (chk zs k) 2 = N at *
      generalize readB ((chk zs k).take 16) = B3 at *
      generalize (⟨(readT ((chk zs k).take 16)).toArray⟩ : ByteArray) = x at *
      obtain ⟨nm, ix, gn⟩ := r
      have eW : nm = x ∧ ix = I ∧ gn = G := by
        have := HW.out
        exact ⟨congrArg Rt.nm this, congrArg Rt.ix this, congrArg Rt.gn this⟩
      obtain ⟨rfl, rfl, rfl⟩ := eW
      simp only at hsz
      have e1 : ¬ (cap = i) := by omega
      have e2 : i + 16 - i = 16 := by omega
      have e3 : i + 32 - i = 32 := by omega
      have e4 : i + 16 ≤ cap := by omega
      have e5 : i + 32 ≤ cap := by omega
      have e6 : (i : Int) + 16 ≤ (cap : Int) := by omega
      have e7 : (i : Int) + 32 ≤ (cap : Int) := by omega
      clear hf HW
      go_wp2_with (first
        | (go_at_call 26; with_reducible refine cS.mono ?_; rintro e w' ⟨rfl, rfl⟩)
        | (go_at_call 27; with_reducible refine cG.mono ?_; rintro e w' ⟨rfl, rfl⟩)
        | (go_at_call 28; with_reducible refine (cO _).mono ?_; rintro e w3 ⟨rfl, hb3⟩; have hb4 := nextR' hb3 (.cells #[.int .i64 ix, .int .i64 gn] 41); have b4 := next hb hb4; have o4 := ho.below hb4; obtain ⟨y0, y1, _, _⟩ := (bxR_new w3 ix gn).cells; have r1 := rs_oneA w3 nm ix gn hsz)
        | (at_builtin; refine append_rs rfl (.tmp 52) (.tmp 56) rfl w.heap.size _ k Lk rfl (o4.row.alloc _) o4.rg (some ⟨w3.heap.size + 1, 0, none⟩) 1 1 [⟨nm, ix, gn⟩] rfl r1 (by omega) (Nat.le_trans b4.size (by simp)) ?_))
      intro bo5 c5 w5 o5 g5
      have hlt5 := ho.row.lt
      have b5 : Below w.heap.size w w5 := (nextR' b4 (.cells #[.string nm, .int .i64 ix, .int .i64 gn] 45)).grown g5 (nextR' b4 _).size (by intro j hj; exact (hlt5 j hj).1)
      rw [← HS.out] at o5
      clear g5 hlt5 ho o4 r1
      go_wp2
      go_roundw
      case rel => exact ⟨k + 1, i + 32, bo5, c5, by omega, by omega, hid (by have := HI.out; omega), rfl, by go_num, o5, b5⟩
      case measure => simp [intOf]; omega
    · have hii : ¬ ((i : Int) < (n : Int)) := by omega
      obtain rfl : k = q := by have := HI.out; have := HQ.out; omega
      have eP : rtP zs k = rtL zs := by unfold rtP rtL; rw [hqd]
      rw [eP] at ho
      have cB := rbytesR_rs bo k c (rtL zs) wr ho.rs (by omega)
      have Ho := hid ho
      by_cases hr : RightR (rtL zs)
      · rw [(rb_t hr).1, (rb_t hr).2] at cB
        have hbX := rowsR_bytes (rtL zs)
        by_cases he : rowsR (rtL zs) = zs
        · have HD := hid (rr_t ⟨hr, he⟩)
          rw [he] at cB
          have hq := textN_t (a := zs) rfl
          clear ho hr he hbX eP
          generalize rtL zs = L at *
          go_wp2_with (first
            | (go_at_call 11; with_reducible refine cB.mono ?_; rintro e w5 ⟨a5, m5, k5, rfl, o5, hb5⟩; have b5 := next hb hb5; have tx := o5.sl.text (P := Tryd.prog) Tryd.underlying23 Tryd.underlying5 Tryd.underlying9; have ty := (Hh.out.below b5).text (P := Tryd.prog) Tryd.underlying23 Tryd.underlying5 Tryd.underlying9))
          go_ret2
          exact ⟨bo, k, c, by rw [HD.out.1]; rfl, by rw [HD.out.2]; exact Ho.out.below hb5, b5⟩
        · have HD := hid (rr_f (zs := zs) (fun e => he e.2))
          have hq := textN_f hbX hby he
          clear ho hr he hbX eP Ho
          generalize rowsR (rtL zs) = X at *
          generalize rtL zs = L at *
          go_wp2_with (first
            | (go_at_call 11; with_reducible refine cB.mono ?_; rintro e w5 ⟨a5, m5, k5, rfl, o5, hb5⟩; have b5 := next hb hb5; have tx := o5.sl.text (P := Tryd.prog) Tryd.underlying23 Tryd.underlying5 Tryd.underlying9; have ty := (Hh.out.below b5).text (P := Tryd.prog) Tryd.underlying23 Tryd.underlying5 Tryd.underlying9))
          go_ret2
          exact ⟨none, 0, 0, by rw [HD.out.1]; rfl, by rw [HD.out.2]; exact owR_nil _ _, b5⟩
      · rw [(rb_f hr).1, (rb_f hr).2] at cB
        have HD := hid (rr_f (zs := zs) (fun e => hr e.1))
        clear ho hr eP Ho
        go_wp2_with (first
          | (go_at_call 11; with_reducible refine cB.mono ?_; rintro e w5 ⟨a5, m5, k5, rfl, o5, hb5⟩; have b5 := next hb hb5))
        go_ret2
        exact ⟨none, 0, 0, by rw [HD.out.1]; rfl, by rw [HD.out.2]; exact owR_nil _ _, b5⟩
/-- joistref09.Read. -/
theorem rreadR_any (ao : Option Addr) (n cap : Nat) (zs : List Int) (w : World) (h : Sl .u8 w ao n cap zs) (hby : Bytes zs) (hcap : cap ≤ 9223372036854775807) :
    Calls Tryd.prog 12 #[.slice ao n cap] w fun e w' => ∃ bo m c, e = .returned (.tuple #[.slice bo m c, .bool (rrB zs)]) ∧ OwR w.heap.size w' bo m c (rrL zs) ∧ Below w.heap.size w w' := by
  have hl := h.len
  have hroom := h.room
  by_cases h32 : n % 32 = 0
  · by_cases h8 : n ≤ 256
    · exact rreadR_words ao n cap zs w h hby hcap (n / 32) (by omega) (by omega)
    · have hok : ¬ RdR zs := fun e => by have := e.size.2.2.1; rw [hl] at this; omega
      rw [(rr_f hok).1, (rr_f hok).2]
      have h32' : ((n : Int) % 32 != 0) = false := by simp; omega
      have h256 : 256 < (n : Int) := by omega
      clear h hok
      go_enter Tryd.func12, Tryd.ntmps12
      go_wp2
      go_ret2
      exact ⟨none, 0, 0, rfl, owR_nil _ _, Below.refl _ _⟩
  · have hok : ¬ RdR zs := fun e => h32 (by have := e.size.1; rwa [hl] at this)
    rw [(rr_f hok).1, (rr_f hok).2]
    have h32' : ((n : Int) % 32 != 0) = true := by simp; omega
    clear h hok
    go_enter Tryd.func12, Tryd.ntmps12
    go_wp2
    go_ret2
    exact ⟨none, 0, 0, rfl, owR_nil _ _, Below.refl _ _⟩
end Go.Proofs.YtmefepjjlhphnaaDoor
