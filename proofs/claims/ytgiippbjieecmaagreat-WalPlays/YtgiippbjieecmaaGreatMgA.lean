/- Store · Flush · Fence: these texts, one behind another. -/
import Derived.Test.YtgiippbjieecmaaGreatCopy
import Derived.Test.YtgiippbjieecmaaGreatLent
/- pmem's Store by its contract. -/
namespace Go.Proofs.YtgiippbjieecmaaGreat
set_option maxRecDepth 100000
open Go.RowKit Go.Maps


def soilTo (S : St) (a : Nat) : Nat → St
  | 0 => S
  | k + 1 => soilS (soilTo S a k) (a + k)
theorem soilTo_seen (S : St) (a k : Nat) : (soilTo S a k).seen = S.seen ∧ (soilTo S a k).n = S.n ∧ (soilTo S a k).armed = S.armed ∧ (soilTo S a k).down = S.down := by
  induction k with
  | zero => exact ⟨rfl, rfl, rfl, rfl⟩
  | succ k ih => exact ih
theorem soilTo_step (T : St) {a q : Nat} (h : a ≤ q) : soilTo T a (q + 1 - a) = soilS (soilTo T a (q - a)) q := by
  rw [show q + 1 - a = (q - a) + 1 by omega]
  show soilS (soilTo T a (q - a)) (a + (q - a)) = _
  rw [show a + (q - a) = q by omega]
def storeS (S : St) (i : Nat) (ys : List Int) : St := { soilTo S (lineA i ys.length) (lineB i ys.length - lineA i ys.length) with seen := splice S.seen i ys }

theorem stepE_zero {S : St} {at_ n : Int} (h : stepE S at_ n = 0) : checkE S at_ n = 0 := by
  unfold stepE at h
  by_cases hh : checkE S at_ n ≠ 0
  · rw [if_pos hh] at h; exact h
  · omega
theorem stepS_same (S : St) (at_ n : Int) : (stepS S at_ n).seen = S.seen ∧ (stepS S at_ n).n = S.n ∧ (stepS S at_ n).lin = S.lin := by
  unfold stepS
  split <;> exact ⟨rfl, rfl, rfl⟩

theorem store_bad {w : World} {F : Nat → Prop} {p : Nat} {S : St} (hd : Dev w F p S) (at_ : Int) (ao : Option Addr) (n cap : Nat) (ha : -9223372036854775808 ≤ at_ ∧ at_ ≤ 9223372036854775807) (hn : n ≤ 9223372036854775807) (hE : stepE S at_ n ≠ 0) :
    Calls Tryz.prog 70 #[.pointer (some ⟨p, 0, none⟩), .int .i64 at_, .slice ao n cap] w fun e w' => e = .returned (.int .i64 (stepE S at_ n)) ∧ Dev w' F p (stepS S at_ n) ∧ Goes F w F w' := by
  obtain ⟨sb, sc, bm, g, hd⟩ := hd
  have hc := step_at hd at_ n ha (by omega)
  have hfp := hd.fp
  obtain ⟨E, hE'⟩ : ∃ E, E = stepE S at_ n := ⟨_, rfl⟩
  rw [← hE'] at hc hE ⊢
  clear hE'
  go_enter Tryz.func70, Tryz.ntmps70
  go_wp2_with (go_at_call 73; with_reducible refine hc.mono ?_; rintro e w' ⟨rfl, d1, g1, s1⟩)
  go_ret
  exact ⟨rfl, ⟨_, _, _, _, d1⟩, ⟨Off.of_grown g1 (fun j hj => by cases hj; exact Or.inl hfp), fun _ h => Or.inl h⟩⟩

theorem St.Ok.splice {S : St} (h : S.Ok) {i : Nat} {ys : List Int} (hi : i + ys.length ≤ S.seen.length) (hb : Bytes ys) : ({ S with seen := splice S.seen i ys } : St).Ok :=
  ⟨by show (Go.splice S.seen i ys).length = _; rw [splice_length hi]; exact h.len, h.n0, h.n1, h.a0, h.a1, splice_bytes h.byt hb, h.lin⟩

/-- What is seen has turned. -/
theorem DevAt.seeing {w w' : World} {F : Nat → Prop} {p : Nat} {S : St} {sb sc bm : Nat} {g : Nat → Option Nat} (h : DevAt w F p S sb sc bm g) {i : Nat} {ys : List Int} (hi : i + ys.length ≤ S.seen.length) (hb : Bytes ys) (hg : w.grownBy w' (some sb))
    (ho : Own .u8 5 0 w' (some ⟨sb, 0, none⟩) S.seen.length sc (Go.splice S.seen i ys)) : DevAt w' F p { S with seen := Go.splice S.seen i ys } sb sc bm g := by
  have hs := hg.size
  have old : ∀ k, F k → k ≠ sb → w'.heap[k]? = w.heap[k]? := fun k hk hn => hg.block k (h.bound k hk) (by simpa using hn)
  have hl : (Go.splice S.seen i ys).length = S.seen.length := splice_length hi
  refine ⟨h.ok.splice hi hb, ?_, h.fp, h.fs, h.fm, ?_, h.map.kept (old bm h.fm h.bm_ne.2), fun j l hj => ?_, h.void, h.inj, fun k hk => Nat.lt_of_lt_of_le (h.bound k hk) hs⟩
  · rw [old p h.fp h.sb_ne.symm, h.obj]; show _ = some (devObj sb (Go.splice S.seen i ys).length sc bm S.armed S.down); rw [hl]
  · show Own .u8 5 0 w' (some ⟨sb, 0, none⟩) (Go.splice S.seen i ys).length sc _; rw [hl]; exact ho
  · obtain ⟨xb, xc, zs, fl, e1, e2, e3, e4, e5, e6⟩ := h.lines j l hj
    exact ⟨xb, xc, zs, fl, e1, e2, e3, e4, (old l e2 (lin_ne_own e5 h.seen)).trans e5, own_same e6 (old xb e3 e4)⟩

theorem lines_fit {i n N : Nat} (h : i + n ≤ 64 * N) : lineA i n ≤ lineB i n ∧ lineB i n ≤ N := by
  unfold lineA lineB
  split
  · omega
  · omega

theorem store_end {w wr w5 : World} {F F' : Nat → Prop} {p i a q b L sb sc bm : Nat} {g : Nat → Option Nat} {T Z : St} {ys : List Int} (hdk : DevAt wr F' p Z sb sc bm g) (hL : L = Z.seen.length) (hfit : i + ys.length ≤ L) (hby : Bytes ys) (hg5 : wr.grownBy w5 (some sb))
    (ho5 : Own .u8 5 0 w5 (some ⟨sb, 0, none⟩) L sc (Go.splice Z.seen i ys)) (hq : q = b) (hZ : Z = soilTo T a (q - a)) (hs : Z.seen = T.seen) (hgo : Goes F w F' wr) :
    Ending.returned (Value.int .i64 0) = Ending.returned (Value.int .i64 0) ∧ ∃ F', Dev w5 F' p { soilTo T a (b - a) with seen := Go.splice T.seen i ys } ∧ Goes F w F' w5 := by
  subst hL
  have h := hdk.seeing hfit hby hg5 ho5
  rw [hs, hZ, hq] at h
  exact ⟨rfl, F', ⟨_, _, _, _, h⟩, hgo.trans ⟨Off.of_grown hg5 (fun j hj => by cases hj; exact Or.inl hdk.fs), fun _ h => Or.inl h⟩⟩

set_option maxRecDepth 100000 in
theorem store_good {w : World} {F : Nat → Prop} {p : Nat} {S : St} (hd : Dev w F p S) (i : Nat) (ao : Option Addr) (n cap : Nat) (ys : List Int) (hsl : Sl .u8 w ao n cap ys) (hby : Bytes ys) (hno : 0 < n → ∀ c, ao = some c → ¬ F c.block) (hE : stepE S i n = 0) :
    Calls Tryz.prog 70 #[.pointer (some ⟨p, 0, none⟩), .int .i64 i, .slice ao n cap] w fun e w' => e = .returned (.int .i64 0) ∧ ∃ F', Dev w' F' p (storeS (stepS S i n) i ys) ∧ Goes F w F' w' := by
  obtain ⟨_, _, _, hle⟩ := checkE_zero (stepE_zero hE)
  have hlen := hd.ok.len
  have hN := hd.ok.n1
  have hyl := hsl.len
  obtain ⟨sb, sc, bm, g, hd⟩ := hd
  have hc := step_at hd i n (by omega) (by omega)
  have hfp := hd.fp
  rw [hE] at hc
  have hlo := linesOf_any i n
  obtain ⟨hA, hB⟩ := lines_fit (i := i) (n := n) (N := S.n) (by omega)
  obtain ⟨T, hT⟩ : ∃ T, T = stepS S i n := ⟨_, rfl⟩
  obtain ⟨t1, t2, t3⟩ := stepS_same S i n
  rw [← hT] at hc t1 t2 t3 ⊢
  obtain ⟨a, ha⟩ : ∃ a, a = lineA i n := ⟨_, rfl⟩
  obtain ⟨b, hb⟩ : ∃ b, b = lineB i n := ⟨_, rfl⟩
  have hst : storeS T i ys = { soilTo T a (b - a) with seen := Go.splice T.seen i ys } := by unfold storeS; rw [hyl, ha, hb]
  rw [← ha, ← hb] at hlo hA
  rw [← hb] at hB
  rw [hst]
  have hle2 : i + n ≤ 64 * S.n := by omega
  have hle3 : i + n ≤ 262144 := by omega
  have HT : Hid (T.n = S.n ∧ T.seen = S.seen ∧ S.seen.length = 64 * S.n) := ⟨t2, t1, hlen⟩
  clear hst ha hb hT hE hle hlen t1 t2 t3
  go_enter Tryz.func70, Tryz.ntmps70
  go_wp2_with (first
    | (go_at_call 73; with_reducible refine hc.mono ?_; rintro e w1 ⟨rfl, d1, g1, s1⟩)
    | (go_at_call 90; refine (hlo _ hle3).mono ?_; rintro e w2 ⟨rfl, rfl⟩))
  have hgo1 : Goes F w F w1 := ⟨Off.of_grown g1 (fun j hj => by cases hj; exact Or.inl hfp), fun _ h => Or.inl h⟩
  go_loopw [10] (fun c wr => ∃ (q : Nat) (F' : Nat → Prop), a ≤ q ∧ q ≤ b ∧ c = .int .i64 q ∧ Dev wr F' p (soilTo T a (q - a)) ∧ Goes F w F' wr) (fun c _ => b - (RowKit.intOf c).toNat)
  case atStart => exact ⟨a, F, Nat.le_refl _, hA, rfl, by rw [Nat.sub_self]; exact ⟨_, _, _, _, d1⟩, hgo1⟩
  case round =>
    obtain ⟨q, F', hq1, hq2, rfl, hdk, hgo⟩ := hrel
    by_cases hlt : q < b
    · have hcs := soil_any hdk q (by rw [(soilTo_seen T a (q - a)).2.1, HT.out.1]; omega)
      have hS : Hid (soilTo T a (q + 1 - a) = soilS (soilTo T a (q - a)) q) := soilTo_step T hq1
      clear hdk
      go_wp2_with (go_at_call 91; with_reducible refine hcs.mono ?_; rintro e w3 ⟨rfl, F3, d3, g3⟩)
      go_roundw
      case rel => exact ⟨q + 1, F3, by omega, by omega, by go_num, by rw [hS.out]; exact d3, hgo.trans g3⟩
      case measure => simp [RowKit.intOf]; omega
    · have hqb : q = b := by omega
      have hkb : ¬ ((q : Int) < (b : Int)) := by omega
      have HQ : Hid (q = b) := hqb
      clear hqb
      obtain ⟨sb', sc', bm', g', hdk⟩ := hdk
      obtain ⟨c0, c1, c2, c3⟩ := dev_cells hdk.obj
      obtain ⟨q1, q2, q3, q4⟩ := soilTo_seen T a (q - a)
      have hcap := hdk.seen.cap_le
      have hsl' : Sl .u8 wr ao n cap ys := hsl.off hgo.off hno
      have hown := hdk.seen
      have hq : (soilTo T a (q - a)).seen.length = 64 * S.n := by rw [q1, HT.out.2.1, HT.out.2.2]
      obtain ⟨Z, hZ⟩ : ∃ Z, Z = soilTo T a (q - a) := ⟨_, rfl⟩
      rw [← hZ] at c0 c2 c3 hown hdk hcap hq q1
      have HZZ : Hid (Z = soilTo T a (q - a)) := hZ
      obtain ⟨L, hL⟩ : ∃ L, L = Z.seen.length := ⟨_, rfl⟩
      rw [← hL] at c0 hown hcap hq
      have HZ : Hid (Z.seen = T.seen) := q1
      have HL : Hid (L = Z.seen.length) := hL
      have hin : i + n ≤ L := by omega
      have hL9 : L ≤ 262144 := by omega
      clear hZ q1 q2 q3 q4 hL hq HT hle2
      by_cases hsc : sc' = i
      · subst hsc
        have HX : Hid (ys.length = n ∧ n = 0) := hid ⟨hyl, by omega⟩
        have hfit : sc' + ys.length ≤ L := by omega
        clear hyl
        go_wp2_with (with_reducible refine wpList_copy_row rfl (.tmp 40) (.tmp 41) rfl _ _ _ _ _ _ rfl rfl 0 sb' sc' L sc' Z.seen ys hown (by have hy := HX.out; show _ = min _ _; omega) (fun h => absurd HX.out (by omega)) hsl' hfit ?_; intro w5 ho5 hg5 hs5)
        go_wp2
        go_ret
        exact store_end hdk HL.out hfit hby hg5 ho5 HQ.out HZZ.out HZ.out hgo
      · have HX : Hid (ys.length = n) := hid hyl
        have hfit : i + ys.length ≤ L := by omega
        clear hyl
        go_wp2_with (with_reducible refine wpList_copy_row rfl (.tmp 40) (.tmp 41) rfl _ _ _ _ _ _ rfl rfl 0 sb' i L sc' Z.seen ys hown (by have hy := HX.out; show _ = min _ _; omega) (fun _ => rfl) hsl' hfit ?_; intro w5 ho5 hg5 hs5)
        go_wp2
        go_ret
        exact store_end hdk HL.out hfit hby hg5 ho5 HQ.out HZZ.out HZ.out hgo
end Go.Proofs.YtgiippbjieecmaaGreat
/- pmem's Flush by its contract. -/
namespace Go.Proofs.YtgiippbjieecmaaGreat
set_option maxRecDepth 100000
open Go.RowKit Go.Maps

def flushP (S : St) (a b : Nat) (left : Nat → Bool) : St := { S with lin := fun j => (S.lin j).map fun x => (x.1, if a ≤ j ∧ j < b ∧ left j = false then true else x.2) }
def flushS (S : St) (a b : Nat) : St := flushP S a b (fun _ => false)
def strike (left : Nat → Bool) (i : Nat) : Nat → Bool := fun j => left j && (j != i)

theorem St.ext' {S T : St} (h1 : S.n = T.n) (h2 : S.seen = T.seen) (h3 : ∀ j, S.lin j = T.lin j) (h4 : S.armed = T.armed) (h5 : S.down = T.down) : S = T := by
  cases S; cases T; simp only [St.mk.injEq] at *; exact ⟨h1, h2, funext h3, h4, h5⟩

theorem flushP_start {S : St} {a b : Nat} {left : Nat → Bool} (h : ∀ j x, S.lin j = some x → left j = true) : flushP S a b left = S := by
  refine St.ext' rfl rfl (fun j => ?_) rfl rfl
  show (S.lin j).map _ = _
  cases hj : S.lin j with
  | none => rfl
  | some x => simp [h j x hj]
theorem flushP_end {S : St} {a b : Nat} {left : Nat → Bool} (h : ∀ j, left j = false) : flushP S a b left = flushS S a b := by
  refine St.ext' rfl rfl (fun j => ?_) rfl rfl
  show (S.lin j).map _ = (S.lin j).map _
  simp [h]
theorem flushP_out {S : St} {a b i : Nat} {left : Nat → Bool} (h : ¬ (a ≤ i ∧ i < b)) : flushP S a b (strike left i) = flushP S a b left := by
  refine St.ext' rfl rfl (fun j => ?_) rfl rfl
  show (S.lin j).map _ = (S.lin j).map _
  congr 1; funext x
  by_cases e : j = i
  · subst e
    rw [if_neg (by omega), if_neg (by omega)]
  · simp [strike, e]
theorem flushP_in {S : St} {a b i : Nat} {left : Nat → Bool} {zs : List Int} {fl : Bool} (h : a ≤ i ∧ i < b) (hz : (flushP S a b left).lin i = some (zs, fl)) : setLin (flushP S a b left) i (some (zs, true)) = flushP S a b (strike left i) := by
  refine St.ext' rfl rfl (fun j => ?_) rfl rfl
  by_cases e : j = i
  · subst e
    have hz' : (S.lin j).map (fun x => (x.1, if a ≤ j ∧ j < b ∧ left j = false then true else x.2)) = some (zs, fl) := hz
    show (if j = j then some (zs, true) else _) = (S.lin j).map _
    cases hj : S.lin j with
    | none => rw [hj] at hz'; cases hz'
    | some x =>
      rw [hj] at hz'
      simp only [Option.map_some, Option.some.injEq, Prod.mk.injEq] at hz'
      simp [strike, h.1, h.2, hz'.1]
  · show (if j = i then _ else _) = (S.lin j).map _
    rw [if_neg e]
    show (S.lin j).map _ = (S.lin j).map _
    simp [strike, e]

theorem flush_bad {w : World} {F : Nat → Prop} {p : Nat} {S : St} (hd : Dev w F p S) (at_ n : Int) (ha : -9223372036854775808 ≤ at_ ∧ at_ ≤ 9223372036854775807) (hn : -9223372036854775808 ≤ n ∧ n ≤ 9223372036854775807) (hE : stepE S at_ n ≠ 0) :
    Calls Tryz.prog 72 #[.pointer (some ⟨p, 0, none⟩), .int .i64 at_, .int .i64 n] w fun e w' => e = .returned (.int .i64 (stepE S at_ n)) ∧ Dev w' F p (stepS S at_ n) ∧ Goes F w F w' := by
  obtain ⟨sb, sc, bm, g, hd⟩ := hd
  have hc := step_at hd at_ n ha hn
  have hfp := hd.fp
  obtain ⟨E, hE'⟩ : ∃ E, E = stepE S at_ n := ⟨_, rfl⟩
  rw [← hE'] at hc hE ⊢
  clear hE'
  go_enter Tryz.func72, Tryz.ntmps72
  go_wp2_with (go_at_call 73; with_reducible refine hc.mono ?_; rintro e w' ⟨rfl, d1, g1, s1⟩)
  go_ret
  exact ⟨rfl, ⟨_, _, _, _, d1⟩, ⟨Off.of_grown g1 (fun j hj => by cases hj; exact Or.inl hfp), fun _ h => Or.inl h⟩⟩

set_option maxRecDepth 100000 in
theorem flush_good {w : World} {F : Nat → Prop} {p : Nat} {S : St} (hd : Dev w F p S) (i n : Nat) (hE : stepE S i n = 0) :
    Calls Tryz.prog 72 #[.pointer (some ⟨p, 0, none⟩), .int .i64 i, .int .i64 n] w fun e w' => e = .returned (.int .i64 0) ∧ Dev w' F p (flushS (stepS S i n) (lineA i n) (lineB i n)) ∧ Goes F w F w' := by
  obtain ⟨_, _, _, hle⟩ := checkE_zero (stepE_zero hE)
  have hlen := hd.ok.len
  have hN := hd.ok.n1
  obtain ⟨sb, sc, bm, g, hd⟩ := hd
  have hc := step_at hd i n (by omega) (by omega)
  have hfp := hd.fp
  rw [hE] at hc
  have hlo := linesOf_any i n
  obtain ⟨hA, hB⟩ := lines_fit (i := i) (n := n) (N := S.n) (by omega)
  obtain ⟨T, hT⟩ : ∃ T, T = stepS S i n := ⟨_, rfl⟩
  obtain ⟨_, t2, _⟩ := stepS_same S i n
  rw [← hT] at hc t2 ⊢
  obtain ⟨a, ha⟩ : ∃ a, a = lineA i n := ⟨_, rfl⟩
  obtain ⟨b, hb⟩ : ∃ b, b = lineB i n := ⟨_, rfl⟩
  rw [← ha, ← hb] at hlo hA ⊢
  rw [← hb] at hB
  rw [← t2] at hN
  have hle3 : i + n ≤ 262144 := by omega
  clear ha hb hT hE hle hlen t2 hB
  have hbd := hd.bound
  go_enter Tryz.func72, Tryz.ntmps72
  go_wp2_with (first
    | (go_at_call 73; with_reducible refine hc.mono ?_; rintro e w1 ⟨rfl, d1, g1, s1⟩;
       obtain ⟨c0, c1, c2, c3⟩ := dev_cells d1.obj; have hmap := d1.map; have S1 : Hid (w1.heap.size = w.heap.size) := s1; clear s1)
    | (go_at_call 90; refine (hlo _ hle3).mono ?_; rintro e w2 ⟨rfl, rfl⟩)
    | (at_range; refine wpList_range_map _ rfl _ rfl bm g T.n rfl hmap ?_; intro w0 hrg0 hg0 hs0))
  go_frame
  go_loopw [10] (fun _ wr => ∃ (left : Nat → Bool), Rng wr bm w1.heap.size g T.n left ∧ DevAt wr F p (flushP T a b left) sb sc bm g ∧ Off F w wr) (fun _ wr => wr.rangeLeft bm w1.heap.size)
  case atStart =>
    refine ⟨_, hrg0, ?_, ?_⟩
    · rw [flushP_start]
      · exact d1.same hg0.size (fun k hk => hg0.block k (d1.bound k hk) (by simp))
      · intro j x hj
        cases hgj : g j with
        | none => rw [d1.void j hgj] at hj; cases hj
        | some l => rfl
    · exact (Off.of_grown g1 (fun j hj => by cases hj; exact Or.inl hfp)).trans (F' := fun _ => False) (Off.of_grown hg0 (fun j hj => by cases hj)) (fun _ h => h.elim)
  case round =>
    obtain ⟨left, hrg, hdl, hoff⟩ := hrel
    have hr1 : ∀ k, F k → k ≠ w1.heap.size := fun k hk => by have := d1.bound k hk; omega
    go_wp2_with (at_next; refine wpList_next_map _ rfl _ rfl bm w1.heap.size g T.n left hN rfl hrg ?_ ?_)
    · intro hl0
      go_wp2
      go_ret
      exact ⟨rfl, ⟨_, _, _, _, by rw [← flushP_end hl0]; exact hdl⟩, hoff, fun _ h => Or.inl h⟩
    · intro q l w2 hgq hqN hlq hrg2 hlt2 hg2 hs2 hen
      have hd2 : DevAt w2 F p (flushP T a b left) sb sc bm g := hdl.same hg2.size (fun k hk => hg2.block k (hdl.bound k hk) (by simpa using hr1 k hk))
      have hoff2 : Off F w w2 := hoff.trans (F' := fun k => k = w1.heap.size) (Off.of_grown hg2 (fun j hj => by cases hj; exact Or.inl rfl)) (fun k hk => Or.inr (by rw [hk, S1.out]; exact Nat.le_refl _))
      obtain ⟨xb, xc, zs, fl, e1, e2, e3, e4, e5, e6⟩ := hd2.lines q l hgq
      obtain ⟨l0, l1, l2⟩ := lin_cells e5
      obtain ⟨zs', fl', f1, d3, g3, s3, fl3⟩ := hd2.flag hgq true
      have hlb := lin_ne_map e5 hd2.map
      have hlr := hr1 l e2
      have H1 : Hid ((flushP T a b left).lin q = some (zs', fl')) := f1
      clear e1 f1 hgq hdl hrg
      by_cases hin : a ≤ q ∧ q < b
      · obtain ⟨i1, i2⟩ := hin
        have j1 : (a : Int) ≤ q := by omega
        have j2 : (q : Int) < b := by omega
        go_wp2
        go_roundw
        case rel =>
          refine ⟨strike left q, (hrg2.kept (g3.block bm hd2.map.bound (by simpa using hlb.symm)) (g3.block _ hrg2.lt (by simpa using hlr.symm))).1, ?_, ?_⟩
          · rw [← flushP_in ⟨i1, i2⟩ H1.out]; exact d3
          · exact hoff2.trans (Off.of_grown g3 (fun j hj => by cases hj; exact Or.inl fl3)) (fun _ h => Or.inl h)
        case measure =>
          rw [(hrg2.kept (g3.block bm hd2.map.bound (by simpa using hlb.symm)) (g3.block _ hrg2.lt (by simpa using hlr.symm))).2]; exact hlt2
      · have hk : flushP T a b left = flushP T a b (strike left q) := (flushP_out hin).symm
        rw [hk] at hd2
        have H2 : Hid (DevAt w2 F p (flushP T a b (strike left q)) sb sc bm g) := hd2
        clear d3 g3 s3 hd2 hk
        by_cases i1 : a ≤ q
        · have j1 : (a : Int) ≤ q := by omega
          have j2 : ¬ ((q : Int) < b) := by omega
          go_wp2
          go_roundw
          case rel => exact ⟨strike left q, hrg2, H2.out, hoff2⟩
          case measure => exact hlt2
        · have j1 : ¬ ((a : Int) ≤ q) := by omega
          go_wp2
          go_roundw
          case rel => exact ⟨strike left q, hrg2, H2.out, hoff2⟩
          case measure => exact hlt2
end Go.Proofs.YtgiippbjieecmaaGreat
/- pmem's Fence by its contract. -/
namespace Go.Proofs.YtgiippbjieecmaaGreat
set_option maxRecDepth 100000
open Go.RowKit Go.Maps

/-- Is line j flushed? -/
def flushed (S : St) (j : Nat) : Bool := match S.lin j with | some (_, true) => true | _ => false
def fenceP (S : St) (left : Nat → Bool) : St := { S with lin := fun j => if flushed S j = true ∧ left j = false then none else S.lin j }
def fenceS (S : St) : St := fenceP S (fun _ => false)
def fenceG (S : St) (g : Nat → Option Nat) (left : Nat → Bool) : Nat → Option Nat := fun j => if flushed S j = true ∧ left j = false then none else g j

theorem fenceP_start {S : St} {left : Nat → Bool} (h : ∀ j x, S.lin j = some x → left j = true) : fenceP S left = S := by
  refine St.ext' rfl rfl (fun j => ?_) rfl rfl
  show (if _ then none else S.lin j) = _
  cases hj : S.lin j with
  | none => simp
  | some x => simp [h j x hj]
theorem fenceG_start {S : St} {g : Nat → Option Nat} {left : Nat → Bool} (h : ∀ j x, S.lin j = some x → left j = true) : fenceG S g left = g := by
  funext j
  unfold fenceG flushed
  cases hj : S.lin j with
  | none => simp
  | some x => simp [h j x hj]
theorem fenceP_end {S : St} {left : Nat → Bool} (h : ∀ j, left j = false) : fenceP S left = fenceS S := by
  refine St.ext' rfl rfl (fun j => ?_) rfl rfl
  show (if _ then none else S.lin j) = (if _ then none else S.lin j)
  simp [h]
theorem fence_stays {S : St} {g : Nat → Option Nat} {left : Nat → Bool} {i : Nat} (h : flushed S i = false) : fenceP S (strike left i) = fenceP S left ∧ fenceG S g (strike left i) = fenceG S g left := by
  constructor
  · refine St.ext' rfl rfl (fun j => ?_) rfl rfl
    show (if _ then none else S.lin j) = (if _ then none else S.lin j)
    by_cases e : j = i
    · subst e; simp [h]
    · simp [strike, e]
  · funext j
    unfold fenceG
    by_cases e : j = i
    · subst e; simp [h]
    · simp [strike, e]
theorem fence_struck {S : St} {g : Nat → Option Nat} {left : Nat → Bool} {i : Nat} (h : flushed S i = true) : setLin (fenceP S left) i none = fenceP S (strike left i) ∧ laid (fenceG S g left) i none = fenceG S g (strike left i) := by
  constructor
  · refine St.ext' rfl rfl (fun j => ?_) rfl rfl
    show (if j = i then none else if _ then none else S.lin j) = (if _ then none else S.lin j)
    by_cases e : j = i
    · subst e; simp [h, strike]
    · simp [strike, e]
  · funext j
    unfold laid fenceG
    by_cases e : j = i
    · subst e; simp [h, strike]
    · simp [strike, e]

/-- A line is struck. -/
theorem DevAt.struck {w w' : World} {F : Nat → Prop} {p : Nat} {S : St} {sb sc bm : Nat} {g : Nat → Option Nat} (h : DevAt w F p S sb sc bm g) {i : Nat} (hg : w.grownBy w' (some bm)) (hm : MapAt w' bm (laid g i none) S.n) : DevAt w' F p (setLin S i none) sb sc bm (laid g i none) := by
  have old : ∀ k, F k → k ≠ bm → w'.heap[k]? = w.heap[k]? := fun k hk hn => hg.block k (h.bound k hk) (by simpa using hn)
  refine ⟨⟨h.ok.len, h.ok.n0, h.ok.n1, h.ok.a0, h.ok.a1, h.ok.byt, fun j zs fl hj => ?_⟩, (old p h.fp h.bm_ne.1.symm).trans h.obj, h.fp, h.fs, h.fm, own_same h.seen (old sb h.fs h.bm_ne.2.symm), hm, fun j l hj => ?_, fun j hj => ?_, fun j j' l h1 h2 => ?_, fun k hk => Nat.lt_of_lt_of_le (h.bound k hk) hg.size⟩
  · by_cases e : j = i
    · simp [setLin, e] at hj
    · simp [setLin, e] at hj; exact h.ok.lin j zs fl hj
  · by_cases e : j = i
    · simp [laid, e] at hj
    · simp [laid, e] at hj
      obtain ⟨xb, xc, zs, fl, e1, e2, e3, e4, e5, e6⟩ := h.lines j l hj
      refine ⟨xb, xc, zs, fl, by simp [setLin, e]; exact e1, e2, e3, e4, (old l e2 (lin_ne_map e5 h.map)).trans e5, own_same e6 (old xb e3 ?_)⟩
      intro e'
      obtain ⟨es, c, hmo⟩ := h.map.obj
      obtain ⟨cur, hc, _⟩ := e6.block
      rw [e', hmo] at hc; simp at hc
  · by_cases e : j = i
    · simp [setLin, e]
    · simp [laid, e] at hj
      simp [setLin, e]; exact h.void j hj
  · by_cases e : j = i
    · simp [laid, e] at h1
    · by_cases e' : j' = i
      · simp [laid, e'] at h2
      · simp [laid, e] at h1
        simp [laid, e'] at h2
        exact h.inj j j' l h1 h2

theorem fence_bad {w : World} {F : Nat → Prop} {p : Nat} {S : St} (hd : Dev w F p S) (hE : stepE S 0 0 ≠ 0) :
    Calls Tryz.prog 49 #[.pointer (some ⟨p, 0, none⟩)] w fun e w' => e = .returned (.int .i64 (stepE S 0 0)) ∧ Dev w' F p (stepS S 0 0) ∧ Goes F w F w' := by
  obtain ⟨sb, sc, bm, g, hd⟩ := hd
  have hc := step_at hd 0 0 (by omega) (by omega)
  have hfp := hd.fp
  obtain ⟨E, hE'⟩ : ∃ E, E = stepE S 0 0 := ⟨_, rfl⟩
  rw [← hE'] at hc hE ⊢
  clear hE'
  go_enter Tryz.func49, Tryz.ntmps49
  go_wp2_with (go_at_call 73; with_reducible refine hc.mono ?_; rintro e w' ⟨rfl, d1, g1, s1⟩)
  go_ret
  exact ⟨rfl, ⟨_, _, _, _, d1⟩, ⟨Off.of_grown g1 (fun j hj => by cases hj; exact Or.inl hfp), fun _ h => Or.inl h⟩⟩

set_option maxRecDepth 100000 in
theorem fence_good {w : World} {F : Nat → Prop} {p : Nat} {S : St} (hd : Dev w F p S) (hE : stepE S 0 0 = 0) :
    Calls Tryz.prog 49 #[.pointer (some ⟨p, 0, none⟩)] w fun e w' => e = .returned (.int .i64 0) ∧ Dev w' F p (fenceS (stepS S 0 0)) ∧ Goes F w F w' := by
  have hN := hd.ok.n1
  obtain ⟨sb, sc, bm, g, hd⟩ := hd
  have hc := step_at hd 0 0 (by omega) (by omega)
  have hfp := hd.fp
  rw [hE] at hc
  obtain ⟨T, hT⟩ : ∃ T, T = stepS S 0 0 := ⟨_, rfl⟩
  obtain ⟨_, t2, _⟩ := stepS_same S 0 0
  rw [← hT] at hc t2 ⊢
  rw [← t2] at hN
  clear hT hE t2
  go_enter Tryz.func49, Tryz.ntmps49
  go_wp2_with (first
    | (go_at_call 73; with_reducible refine hc.mono ?_; rintro e w1 ⟨rfl, d1, g1, s1⟩;
       obtain ⟨c0, c1, c2, c3⟩ := dev_cells d1.obj; have hmap := d1.map; have S1 : Hid (w1.heap.size = w.heap.size) := s1; clear s1)
    | (at_range; refine wpList_range_map _ rfl _ rfl bm g T.n rfl hmap ?_; intro w0 hrg0 hg0 hs0))
  go_frame
  have hst : ∀ j x, T.lin j = some x → (g j).isSome = true := by
    intro j x hj
    cases hgj : g j with
    | none => rw [d1.void j hgj] at hj; cases hj
    | some l => rfl
  go_loopw [4] (fun _ wr => ∃ (left : Nat → Bool), Rng wr bm w1.heap.size (fenceG T g left) T.n left ∧ DevAt wr F p (fenceP T left) sb sc bm (fenceG T g left) ∧ Off F w wr) (fun _ wr => wr.rangeLeft bm w1.heap.size)
  case atStart =>
    refine ⟨_, by rw [fenceG_start hst]; exact hrg0, ?_, ?_⟩
    · rw [fenceP_start hst, fenceG_start hst]
      exact d1.same hg0.size (fun k hk => hg0.block k (d1.bound k hk) (by simp))
    · exact (Off.of_grown g1 (fun j hj => by cases hj; exact Or.inl hfp)).trans (F' := fun _ => False) (Off.of_grown hg0 (fun j hj => by cases hj)) (fun _ h => h.elim)
  case round =>
    obtain ⟨left, hrg, hdl, hoff⟩ := hrel
    have hr1 : ∀ k, F k → k ≠ w1.heap.size := fun k hk => by have := d1.bound k hk; omega
    go_wp2_with (at_next; refine wpList_next_map _ rfl _ rfl bm w1.heap.size (fenceG T g left) T.n left hN rfl hrg ?_ ?_)
    · intro hl0
      go_wp2
      go_ret
      exact ⟨rfl, ⟨_, _, _, _, by rw [← fenceP_end hl0]; exact hdl⟩, hoff, fun _ h => Or.inl h⟩
    · intro q l w2 hgq hqN hlq hrg2 hlt2 hg2 hs2 hen
      have hd2 : DevAt w2 F p (fenceP T left) sb sc bm (fenceG T g left) := hdl.same hg2.size (fun k hk => hg2.block k (hdl.bound k hk) (by simpa using hr1 k hk))
      have hoff2 : Off F w w2 := hoff.trans (F' := fun k => k = w1.heap.size) (Off.of_grown hg2 (fun j hj => by cases hj; exact Or.inl rfl)) (fun k hk => Or.inr (by rw [hk, S1.out]; exact Nat.le_refl _))
      obtain ⟨xb, xc, zs, fl, e1, e2, e3, e4, e5, e6⟩ := hd2.lines q l hgq
      obtain ⟨l0, l1, l2⟩ := lin_cells e5
      obtain ⟨c0', c1', c2', c3'⟩ := dev_cells hd2.obj
      have hq9 : q ≤ 9223372036854775807 := by omega
      have hfl : flushed T q = fl := by
        have e1' : (if flushed T q = true ∧ left q = false then none else T.lin q) = some (zs, fl) := e1
        rw [hlq] at e1'
        simp at e1'
        simp only [flushed, e1']
        cases fl <;> rfl
      clear e1 hgq hdl hrg
      cases fl
      · have H2 : Hid (DevAt w2 F p (fenceP T (strike left q)) sb sc bm (fenceG T g (strike left q)) ∧ Rng w2 bm w1.heap.size (fenceG T g (strike left q)) T.n (strike left q)) := hid ⟨by rw [(fence_stays (g := g) hfl).1, (fence_stays (g := g) hfl).2]; exact hd2, by rw [(fence_stays (g := g) hfl).2]; exact hrg2⟩
        clear hfl
        go_wp2
        go_roundw
        case rel => exact ⟨strike left q, H2.out.2, H2.out.1, hoff2⟩
        case measure => exact hlt2
      · have HF : Hid (flushed T q = true) := hfl
        clear hfl
        go_wp2_with (at_delete; refine wpList_delete_map _ rfl _ _ rfl bm w1.heap.size (fenceG T g left) T.n _ rfl hrg2 q hq9 rfl ?_; intro w3 hrg3 hle3 hg3 hs3; go_frame)
        have hl2 : (fun j => (left j && (j != q)) && (j != q)) = strike left q := by funext j; simp [strike]
        have d3 := hd2.struck hg3 hrg3.map
        rw [(fence_struck (g := g) HF.out).1, (fence_struck (g := g) HF.out).2] at d3
        rw [(fence_struck (g := g) HF.out).2, hl2] at hrg3
        go_roundw
        case rel => exact ⟨strike left q, hrg3, d3, hoff2.trans (Off.of_grown hg3 (fun j hj => by cases hj; exact Or.inl hd2.fm)) (fun _ h => Or.inl h)⟩
        case measure => omega
end Go.Proofs.YtgiippbjieecmaaGreat
