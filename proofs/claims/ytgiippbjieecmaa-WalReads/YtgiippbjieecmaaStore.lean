/- pmem's Store by its contract. -/
import Derived.Test.YtgiippbjieecmaaCopy
import Derived.Test.YtgiippbjieecmaaLent
namespace Go.Proofs.Ytgiippbjieecmaa
set_option maxRecDepth 100000
open Go.RowKit Go.Maps


def soilTo (S : St) (a : Nat) : Nat → St
  | 0 => S
  | k + 1 => soilS (soilTo S a k) (a + k)
theorem soilTo_seen (S : St) (a k : Nat) : (soilTo S a k).seen = S.seen ∧ (soilTo S a k).n = S.n ∧ (soilTo S a k).armed = S.armed ∧ (soilTo S a k).down = S.down := by
  induction k with
  | zero => exact ⟨rfl, rfl, rfl, rfl⟩
  | succ k ih => exact ih
theorem soilTo_step (T : St) {a q : Nat} (h : a ≤ q) : soilTo T a (q + 1 - a) = soilS (soilTo T a (q - a)) q := by
  rw [show q + 1 - a = (q - a) + 1 by omega]
  show soilS (soilTo T a (q - a)) (a + (q - a)) = _
  rw [show a + (q - a) = q by omega]
def storeS (S : St) (i : Nat) (ys : List Int) : St := { soilTo S (lineA i ys.length) (lineB i ys.length - lineA i ys.length) with seen := splice S.seen i ys }

theorem stepE_zero {S : St} {at_ n : Int} (h : stepE S at_ n = 0) : checkE S at_ n = 0 := by
  unfold stepE at h
  by_cases hh : checkE S at_ n ≠ 0
  · rw [if_pos hh] at h; exact h
  · omega
theorem stepS_same (S : St) (at_ n : Int) : (stepS S at_ n).seen = S.seen ∧ (stepS S at_ n).n = S.n ∧ (stepS S at_ n).lin = S.lin := by
  unfold stepS
  split <;> exact ⟨rfl, rfl, rfl⟩

theorem store_bad {w : World} {F : Nat → Prop} {p : Nat} {S : St} (hd : Dev w F p S) (at_ : Int) (ao : Option Addr) (n cap : Nat) (ha : -9223372036854775808 ≤ at_ ∧ at_ ≤ 9223372036854775807) (hn : n ≤ 9223372036854775807) (hE : stepE S at_ n ≠ 0) :
    Calls Try.prog 85 #[.pointer (some ⟨p, 0, none⟩), .int .i64 at_, .slice ao n cap] w fun e w' => e = .returned (.int .i64 (stepE S at_ n)) ∧ Dev w' F p (stepS S at_ n) ∧ Goes F w F w' := by
  obtain ⟨sb, sc, bm, g, hd⟩ := hd
  have hc := step_at hd at_ n ha (by omega)
  have hfp := hd.fp
  obtain ⟨E, hE'⟩ : ∃ E, E = stepE S at_ n := ⟨_, rfl⟩
  rw [← hE'] at hc hE ⊢
  clear hE'
  go_enter Try.func85, Try.ntmps85
  go_wp2_with (go_at_call 88; with_reducible refine hc.mono ?_; rintro e w' ⟨rfl, d1, g1, s1⟩)
  go_ret
  exact ⟨rfl, ⟨_, _, _, _, d1⟩, ⟨Off.of_grown g1 (fun j hj => by cases hj; exact Or.inl hfp), fun _ h => Or.inl h⟩⟩

theorem St.Ok.splice {S : St} (h : S.Ok) {i : Nat} {ys : List Int} (hi : i + ys.length ≤ S.seen.length) (hb : Bytes ys) : ({ S with seen := splice S.seen i ys } : St).Ok :=
  ⟨by show (Go.splice S.seen i ys).length = _; rw [splice_length hi]; exact h.len, h.n0, h.n1, h.a0, h.a1, splice_bytes h.byt hb, h.lin⟩

/-- What is seen has turned. -/
theorem DevAt.seeing {w w' : World} {F : Nat → Prop} {p : Nat} {S : St} {sb sc bm : Nat} {g : Nat → Option Nat} (h : DevAt w F p S sb sc bm g) {i : Nat} {ys : List Int} (hi : i + ys.length ≤ S.seen.length) (hb : Bytes ys) (hg : w.grownBy w' (some sb))
    (ho : Own .u8 5 0 w' (some ⟨sb, 0, none⟩) S.seen.length sc (Go.splice S.seen i ys)) : DevAt w' F p { S with seen := Go.splice S.seen i ys } sb sc bm g := by
  have hs := hg.size
  have old : ∀ k, F k → k ≠ sb → w'.heap[k]? = w.heap[k]? := fun k hk hn => hg.block k (h.bound k hk) (by simpa using hn)
  have hl : (Go.splice S.seen i ys).length = S.seen.length := splice_length hi
  refine ⟨h.ok.splice hi hb, ?_, h.fp, h.fs, h.fm, ?_, h.map.kept (old bm h.fm h.bm_ne.2), fun j l hj => ?_, h.void, h.inj, fun k hk => Nat.lt_of_lt_of_le (h.bound k hk) hs⟩
  · rw [old p h.fp h.sb_ne.symm, h.obj]; show _ = some (devObj sb (Go.splice S.seen i ys).length sc bm S.armed S.down); rw [hl]
  · show Own .u8 5 0 w' (some ⟨sb, 0, none⟩) (Go.splice S.seen i ys).length sc _; rw [hl]; exact ho
  · obtain ⟨xb, xc, zs, fl, e1, e2, e3, e4, e5, e6⟩ := h.lines j l hj
    exact ⟨xb, xc, zs, fl, e1, e2, e3, e4, (old l e2 (lin_ne_own e5 h.seen)).trans e5, own_same e6 (old xb e3 e4)⟩

theorem lines_fit {i n N : Nat} (h : i + n ≤ 64 * N) : lineA i n ≤ lineB i n ∧ lineB i n ≤ N := by
  unfold lineA lineB
  split
  · omega
  · omega

theorem store_end {w wr w5 : World} {F F' : Nat → Prop} {p i a q b L sb sc bm : Nat} {g : Nat → Option Nat} {T Z : St} {ys : List Int} (hdk : DevAt wr F' p Z sb sc bm g) (hL : L = Z.seen.length) (hfit : i + ys.length ≤ L) (hby : Bytes ys) (hg5 : wr.grownBy w5 (some sb))
    (ho5 : Own .u8 5 0 w5 (some ⟨sb, 0, none⟩) L sc (Go.splice Z.seen i ys)) (hq : q = b) (hZ : Z = soilTo T a (q - a)) (hs : Z.seen = T.seen) (hgo : Goes F w F' wr) :
    Ending.returned (Value.int .i64 0) = Ending.returned (Value.int .i64 0) ∧ ∃ F', Dev w5 F' p { soilTo T a (b - a) with seen := Go.splice T.seen i ys } ∧ Goes F w F' w5 := by
  subst hL
  have h := hdk.seeing hfit hby hg5 ho5
  rw [hs, hZ, hq] at h
  exact ⟨rfl, F', ⟨_, _, _, _, h⟩, hgo.trans ⟨Off.of_grown hg5 (fun j hj => by cases hj; exact Or.inl hdk.fs), fun _ h => Or.inl h⟩⟩

set_option maxRecDepth 100000 in
theorem store_good {w : World} {F : Nat → Prop} {p : Nat} {S : St} (hd : Dev w F p S) (i : Nat) (ao : Option Addr) (n cap : Nat) (ys : List Int) (hsl : Sl .u8 w ao n cap ys) (hby : Bytes ys) (hno : 0 < n → ∀ c, ao = some c → ¬ F c.block) (hE : stepE S i n = 0) :
    Calls Try.prog 85 #[.pointer (some ⟨p, 0, none⟩), .int .i64 i, .slice ao n cap] w fun e w' => e = .returned (.int .i64 0) ∧ ∃ F', Dev w' F' p (storeS (stepS S i n) i ys) ∧ Goes F w F' w' := by
  obtain ⟨_, _, _, hle⟩ := checkE_zero (stepE_zero hE)
  have hlen := hd.ok.len
  have hN := hd.ok.n1
  have hyl := hsl.len
  obtain ⟨sb, sc, bm, g, hd⟩ := hd
  have hc := step_at hd i n (by omega) (by omega)
  have hfp := hd.fp
  rw [hE] at hc
  have hlo := linesOf_any i n
  obtain ⟨hA, hB⟩ := lines_fit (i := i) (n := n) (N := S.n) (by omega)
  obtain ⟨T, hT⟩ : ∃ T, T = stepS S i n := ⟨_, rfl⟩
  obtain ⟨t1, t2, t3⟩ := stepS_same S i n
  rw [← hT] at hc t1 t2 t3 ⊢
  obtain ⟨a, ha⟩ : ∃ a, a = lineA i n := ⟨_, rfl⟩
  obtain ⟨b, hb⟩ : ∃ b, b = lineB i n := ⟨_, rfl⟩
  have hst : storeS T i ys = { soilTo T a (b - a) with seen := Go.splice T.seen i ys } := by unfold storeS; rw [hyl, ha, hb]
  rw [← ha, ← hb] at hlo hA
  rw [← hb] at hB
  rw [hst]
  have hle2 : i + n ≤ 64 * S.n := by omega
  have hle3 : i + n ≤ 262144 := by omega
  have HT : Hid (T.n = S.n ∧ T.seen = S.seen ∧ S.seen.length = 64 * S.n) := ⟨t2, t1, hlen⟩
  clear hst ha hb hT hE hle hlen t1 t2 t3
  go_enter Try.func85, Try.ntmps85
  go_wp2_with (first
    | (go_at_call 88; with_reducible refine hc.mono ?_; rintro e w1 ⟨rfl, d1, g1, s1⟩)
    | (go_at_call 93; refine (hlo _ hle3).mono ?_; rintro e w2 ⟨rfl, rfl⟩))
  have hgo1 : Goes F w F w1 := ⟨Off.of_grown g1 (fun j hj => by cases hj; exact Or.inl hfp), fun _ h => Or.inl h⟩
  go_loopw [10] (fun c wr => ∃ (q : Nat) (F' : Nat → Prop), a ≤ q ∧ q ≤ b ∧ c = .int .i64 q ∧ Dev wr F' p (soilTo T a (q - a)) ∧ Goes F w F' wr) (fun c _ => b - (RowKit.intOf c).toNat)
  case atStart => exact ⟨a, F, Nat.le_refl _, hA, rfl, by rw [Nat.sub_self]; exact ⟨_, _, _, _, d1⟩, hgo1⟩
  case round =>
    obtain ⟨q, F', hq1, hq2, rfl, hdk, hgo⟩ := hrel
    by_cases hlt : q < b
    · have hcs := soil_any hdk q (by rw [(soilTo_seen T a (q - a)).2.1, HT.out.1]; omega)
      have hS : Hid (soilTo T a (q + 1 - a) = soilS (soilTo T a (q - a)) q) := soilTo_step T hq1
      clear hdk
      go_wp2_with (go_at_call 94; with_reducible refine hcs.mono ?_; rintro e w3 ⟨rfl, F3, d3, g3⟩)
      go_roundw
      case rel => exact ⟨q + 1, F3, by omega, by omega, by go_num, by rw [hS.out]; exact d3, hgo.trans g3⟩
      case measure => simp [RowKit.intOf]; omega
    · have hqb : q = b := by omega
      have hkb : ¬ ((q : Int) < (b : Int)) := by omega
      have HQ : Hid (q = b) := hqb
      clear hqb
      obtain ⟨sb', sc', bm', g', hdk⟩ := hdk
      obtain ⟨c0, c1, c2, c3⟩ := dev_cells hdk.obj
      obtain ⟨q1, q2, q3, q4⟩ := soilTo_seen T a (q - a)
      have hcap := hdk.seen.cap_le
      have hsl' : Sl .u8 wr ao n cap ys := hsl.off hgo.off hno
      have hown := hdk.seen
      have hq : (soilTo T a (q - a)).seen.length = 64 * S.n := by rw [q1, HT.out.2.1, HT.out.2.2]
      obtain ⟨Z, hZ⟩ : ∃ Z, Z = soilTo T a (q - a) := ⟨_, rfl⟩
      rw [← hZ] at c0 c2 c3 hown hdk hcap hq q1
      have HZZ : Hid (Z = soilTo T a (q - a)) := hZ
      obtain ⟨L, hL⟩ : ∃ L, L = Z.seen.length := ⟨_, rfl⟩
      rw [← hL] at c0 hown hcap hq
      have HZ : Hid (Z.seen = T.seen) := q1
      have HL : Hid (L = Z.seen.length) := hL
      have hin : i + n ≤ L := by omega
      have hL9 : L ≤ 262144 := by omega
      clear hZ q1 q2 q3 q4 hL hq HT hle2
      by_cases hsc : sc' = i
      · subst hsc
        have HX : Hid (ys.length = n ∧ n = 0) := hid ⟨hyl, by omega⟩
        have hfit : sc' + ys.length ≤ L := by omega
        clear hyl
        go_wp2_with (with_reducible refine wpList_copy_row rfl (.tmp 40) (.tmp 41) rfl _ _ _ _ _ _ rfl rfl 0 sb' sc' L sc' Z.seen ys hown (by have hy := HX.out; show _ = min _ _; omega) (fun h => absurd HX.out (by omega)) hsl' hfit ?_; intro w5 ho5 hg5 hs5)
        go_wp2
        go_ret
        exact store_end hdk HL.out hfit hby hg5 ho5 HQ.out HZZ.out HZ.out hgo
      · have HX : Hid (ys.length = n) := hid hyl
        have hfit : i + ys.length ≤ L := by omega
        clear hyl
        go_wp2_with (with_reducible refine wpList_copy_row rfl (.tmp 40) (.tmp 41) rfl _ _ _ _ _ _ rfl rfl 0 sb' i L sc' Z.seen ys hown (by have hy := HX.out; show _ = min _ _; omega) (fun _ => rfl) hsl' hfit ?_; intro w5 ho5 hg5 hs5)
        go_wp2
        go_ret
        exact store_end hdk HL.out hfit hby hg5 ho5 HQ.out HZZ.out HZ.out hgo
end Go.Proofs.Ytgiippbjieecmaa
