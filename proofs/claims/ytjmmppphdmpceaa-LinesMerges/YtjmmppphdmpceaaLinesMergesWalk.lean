/- The law 'LinesMerges', walked. -/
import Derived.Test.YtjmmppphdmpceaaSmallLines
import Derived.Test.YtjmmppphdmpceaaLayQ
import Derived.Test.YtjmmppphdmpceaaChApp
import Derived.BigQuiet
namespace Go.Proofs.Ytjmmppphdmpceaa
open Go.RowKit
set_option linter.unusedVariables false

def anyB (D : Nat → ChD) (k : Nat) (L : Int) : Bool := (List.range k).any fun j => (D j).line == L
theorem anyB_succ (D : Nat → ChD) (k : Nat) (L : Int) : anyB D (k + 1) L = (anyB D k L || ((D k).line == L)) := by simp [anyB, List.range_succ]
theorem anyB_of {D : Nat → ChD} {k : Nat} {c : Chg} (h : c ∈ saysN D k) : anyB D k c.1 = true := by
  unfold anyB
  rw [List.any_eq_true]
  unfold saysN at h
  obtain ⟨j, hj, e⟩ := List.mem_map.1 h
  refine ⟨j, hj, ?_⟩
  rw [← e]
  simp [ChD.says]
theorem found_one {xs ys zs : List Int} {N kx ky kz i : Nat} {X Y Z : Nat → ChD} (hz : 64 * N ≤ zs.length) (hX : saysN X kx = diffN xs zs N) (hY : saysN Y ky = diffN xs ys N) (hZ : saysN Z kz = diffN ys zs N) (hi : i < kx) : (anyB Y ky (X i).line || anyB Z kz (X i).line) = true := by
  have hm : (X i).says ∈ diffN xs zs N := by rw [← hX]; exact says_mem X hi
  obtain ⟨q, hq, e, hne, _⟩ := diff_mem hz hm
  have hl : (X i).line = q := congrArg Prod.fst e
  rw [hl]
  by_cases e1 : lin xs q = lin ys q
  · have h2 : ¬ lin ys q = lin zs q := fun e2 => hne (e1.trans e2)
    have := anyB_of (D := Z) (k := kz) (by rw [hZ]; exact mem_diff hq h2)
    rw [this, Bool.or_true]
  · have := anyB_of (D := Y) (k := ky) (by rw [hY]; exact mem_diff hq e1)
    rw [this, Bool.true_or]
def revN (D : Nat → ChD) (m j : Nat) : List Chg := (List.range j).map fun r => (D (m - 1 - r)).says
theorem revN_succ (D : Nat → ChD) (m j : Nat) : revN D m (j + 1) = revN D m j ++ [(D (m - 1 - j)).says] := by simp [revN, List.range_succ]
theorem revN_mem (D : Nat → ChD) (m : Nat) (c : Chg) : c ∈ revN D m m ↔ c ∈ saysN D m := by
  unfold revN saysN
  simp only [List.mem_map, List.mem_range]
  constructor
  · rintro ⟨r, hr, e⟩; exact ⟨m - 1 - r, by omega, e⟩
  · rintro ⟨r, hr, e⟩; exact ⟨m - 1 - r, by omega, by rw [show m - 1 - (m - 1 - r) = r by omega]; exact e⟩

theorem merges_badA (w : World) (a0 : Option Addr) (len0 cap0 : Nat) (z0 : List Int) (s0 : Sl .u8 w a0 len0 cap0 z0) (b0 : Bytes z0) (m0 : len0 ≤ 140737488351232) (c0 : cap0 ≤ 9223372036854775807)
    (a1 : Option Addr) (len1 cap1 : Nat) (z1 : List Int) (s1 : Sl .u8 w a1 len1 cap1 z1) (b1 : Bytes z1) (m1 : len1 ≤ 140737488351232) (c1 : cap1 ≤ 9223372036854775807)
    (a2 : Option Addr) (len2 cap2 : Nat) (z2 : List Int) (s2 : Sl .u8 w a2 len2 cap2 z2) (b2 : Bytes z2) (m2 : len2 ≤ 140737488351232) (c2 : cap2 ≤ 9223372036854775807)
    (dif : ∀ (w : World) (a : Option Addr) (n c : Nat) (z : List Int) (b : Option Addr) (n' c' : Nat) (z' : List Int), Sl .u8 w a n c z → Sl .u8 w b n' c' z' → Bytes z → Bytes z' → n ≤ 140737488351232 → n' ≤ 140737488351232 → c ≤ 9223372036854775807 → c' ≤ 9223372036854775807 →
      Calls Try.prog 10 #[.slice a n c, .slice b n' c'] w fun e w' => ∃ lo k lc v, e = .returned (.tuple #[.slice lo k lc, .int .i64 v]) ∧ Hid (v = if n % 64 = 0 ∧ n = n' then 0 else 1) ∧ Below w.heap.size w w')
    (hbad : ¬ (len0 % 64 = 0 ∧ len0 = len2) ∨ ¬ (len0 % 64 = 0 ∧ len0 = len1)) :
    Calls Try.prog 7 #[.slice a0 len0 cap0, .slice a1 len1 cap1, .slice a2 len2 cap2] w fun e w' => e = .returned (.bool true) ∧ Below w.heap.size w w' := by
  have tA : True := trivial
  have tB : True := trivial
  by_cases hA : len0 % 64 = 0 ∧ len0 = len2
  · have hB : ¬ (len0 % 64 = 0 ∧ len0 = len1) := by omega
    have HA : Hid (len0 % 64 = 0 ∧ len0 = len2) := hA
    have HB : Hid (¬ (len0 % 64 = 0 ∧ len0 = len1)) := hB
    clear hA hB hbad
    go_enter Try.func7, Try.ntmps7
    go_wp2_with (first
      | (go_at_call 8; with_reducible refine (small_any _).mono ?_; rintro e w1 ⟨rfl, hb1⟩; have p0 := s0.below hb1; have p1 := s1.below hb1; have p2 := s2.below hb1)
      | (go_at_call 10; have _t := tA; with_reducible refine (dif _ _ _ _ z0 _ _ _ z2 p0 p2 b0 b2 m0 m2 c0 c2).mono ?_; rintro e w2 ⟨lo, k, lc, v, rfl, hv, hb2⟩; clear tA; have q0 := p0.below hb2; have q1 := p1.below hb2; have q2 := p2.below hb2; have hv0 := hv.out; rw [if_pos HA.out] at hv0; subst hv0)
      | (go_at_call 10; have _t := tB; with_reducible refine (dif _ _ _ _ z0 _ _ _ z1 q0 q1 b0 b1 m0 m1 c0 c1).mono ?_; rintro e w3 ⟨lo3, k3, lc3, v3, rfl, hv3, hb3⟩; clear tB; have r1 := q1.below hb3; have r2 := q2.below hb3; have hv0 := hv3.out; rw [if_neg HB.out] at hv0; subst hv0)
      | (go_at_call 10; with_reducible refine (dif _ _ _ _ z1 _ _ _ z2 r1 r2 b1 b2 m1 m2 c1 c2).mono ?_; rintro e w4 ⟨lo4, k4, lc4, v4, rfl, hv4, hb4⟩))
    go_ret
    exact ⟨rfl, next (next (next hb1 hb2) hb3) hb4⟩
  · have HA : Hid (¬ (len0 % 64 = 0 ∧ len0 = len2)) := hA
    clear hA hbad
    go_enter Try.func7, Try.ntmps7
    go_wp2_with (first
      | (go_at_call 8; with_reducible refine (small_any _).mono ?_; rintro e w1 ⟨rfl, hb1⟩; have p0 := s0.below hb1; have p1 := s1.below hb1; have p2 := s2.below hb1)
      | (go_at_call 10; have _t := tA; with_reducible refine (dif _ _ _ _ z0 _ _ _ z2 p0 p2 b0 b2 m0 m2 c0 c2).mono ?_; rintro e w2 ⟨lo, k, lc, v, rfl, hv, hb2⟩; clear tA; have q0 := p0.below hb2; have q1 := p1.below hb2; have q2 := p2.below hb2; have hv0 := hv.out; rw [if_neg HA.out] at hv0; subst hv0)
      | (go_at_call 10; have _t := tB; with_reducible refine (dif _ _ _ _ z0 _ _ _ z1 q0 q1 b0 b1 m0 m1 c0 c1).mono ?_; rintro e w3 ⟨lo3, k3, lc3, v3, rfl, hv3, hb3⟩; clear tB; have r1 := q1.below hb3; have r2 := q2.below hb3)
      | (go_at_call 10; with_reducible refine (dif _ _ _ _ z1 _ _ _ z2 r1 r2 b1 b2 m1 m2 c1 c2).mono ?_; rintro e w4 ⟨lo4, k4, lc4, v4, rfl, hv4, hb4⟩))
    go_ret
    exact ⟨rfl, next (next (next hb1 hb2) hb3) hb4⟩
theorem diff_res (w : World) (a : Option Addr) (n c : Nat) (z : List Int) (b : Option Addr) (n' c' : Nat) (z' : List Int) (s : Sl .u8 w a n c z) (s' : Sl .u8 w b n' c' z') (hz : Bytes z) (hz' : Bytes z') (hn : n ≤ 140737488351232) (hn' : n' ≤ 140737488351232) (hc : c ≤ 9223372036854775807) (hc' : c' ≤ 9223372036854775807) :
      Calls Try.prog 10 #[.slice a n c, .slice b n' c'] w fun e w' => ∃ lo k lc v, e = .returned (.tuple #[.slice lo k lc, .int .i64 v]) ∧ Hid (v = if n % 64 = 0 ∧ n = n' then 0 else 1) ∧ Below w.heap.size w w' := by
  by_cases h : n % 64 = 0 ∧ n = n'
  · obtain ⟨h1, rfl⟩ := h
    refine (diff_good a n c z b c' z' w s s' hz hz' h1 (by omega) hc hc').mono ?_
    rintro e w' ⟨lo, k, lc, D, rfl, _, _, hb⟩
    exact ⟨lo, k, lc, 0, rfl, hid (by rw [if_pos ⟨h1, rfl⟩]), hb⟩
  · refine (diff_bad a n c b n' c' w (by omega) (by omega) h).mono ?_
    rintro e w' ⟨rfl, rfl⟩
    exact ⟨none, 0, 0, 1, rfl, hid (by rw [if_neg h]), Below.refl _ _⟩

set_option maxRecDepth 100000 in
set_option maxHeartbeats 2000000 in
theorem merges_good (w : World) (a0 : Option Addr) (len0 cap0 : Nat) (z0 : List Int) (s0 : Sl .u8 w a0 len0 cap0 z0) (b0 : Bytes z0) (m0 : len0 ≤ 140737488351232) (c0 : cap0 ≤ 9223372036854775807)
    (a1 : Option Addr) (cap1 : Nat) (z1 : List Int) (s1 : Sl .u8 w a1 len0 cap1 z1) (b1 : Bytes z1) (c1 : cap1 ≤ 9223372036854775807)
    (a2 : Option Addr) (cap2 : Nat) (z2 : List Int) (s2 : Sl .u8 w a2 len0 cap2 z2) (b2 : Bytes z2) (c2 : cap2 ≤ 9223372036854775807) (h64 : len0 % 64 = 0) :
    Calls Try.prog 7 #[.slice a0 len0 cap0, .slice a1 len0 cap1, .slice a2 len0 cap2] w fun e w' => e = .returned (.bool true) ∧ Below w.heap.size w w' := by
  have hl0 := s0.len
  have hl1 := s1.len
  have hl2 := s2.len
  have n0 : len0 ≤ 140737488355328 := by omega
  obtain ⟨N, hN⟩ : ∃ N, len0 / 64 = N := ⟨_, rfl⟩
  have hx : z0.length = 64 * N := by omega
  have hy : z1.length = 64 * N := by omega
  have hz : z2.length = 64 * N := by omega
  have tA : True := trivial
  have tB : True := trivial
  go_enter Try.func7, Try.ntmps7
  go_wp2_with (first
    | (go_at_call 8; with_reducible refine (small_any _).mono ?_; rintro e w1 ⟨rfl, hb1⟩; have p0 := s0.below hb1; have p1 := s1.below hb1; have p2 := s2.below hb1)
    | (go_at_call 10; have _t := tA; with_reducible refine (diff_good _ _ _ z0 _ _ z2 _ p0 p2 b0 b2 h64 n0 c0 c2).mono ?_; rintro e w2 ⟨xo, kx, xc, X, rfl, oX, sX, hb2⟩; clear tA; have q0 := p0.below hb2; have q1 := p1.below hb2; have q2 := p2.below hb2)
    | (go_at_call 10; have _t := tB; with_reducible refine (diff_good _ _ _ z0 _ _ z1 _ q0 q1 b0 b1 h64 n0 c0 c1).mono ?_; rintro e w3 ⟨yo, ky, yc, Y, rfl, oY, sY, hb3⟩; clear tB; have r1 := q1.below hb3; have r2 := q2.below hb3)
    | (go_at_call 10; with_reducible refine (diff_good _ _ _ z1 _ _ z2 _ r1 r2 b1 b2 h64 n0 c1 c2).mono ?_; rintro e w4 ⟨zo, kz, zc, Z, rfl, oZ, sZ, hb4⟩))
  rw [hN] at sX sY sZ
  have hX4 := (oX.below hb3).below hb4
  have cX := hX4.chs
  have cY := (oY.below hb4).chs
  have cZ := oZ.chs
  have hb14 := next (next (next hb1 hb2) hb3) hb4
  have t0 := s0.below hb14
  have t2 := s2.below hb14
  have HF : Hid (∀ i, i < kx → (anyB Y ky (X i).line || anyB Z kz (X i).line) = true) := fun i hi => found_one (by omega) sX sY sZ hi
  have hkx : kx ≤ N := by have := diffN_length z0 z2 N; rw [← sX, saysN_length] at this; exact this
  have fX := cX.fit
  have fY := cY.fit
  have fZ := cZ.fit
  have HM := hid (lay_target hx hz (cs := revN X kx kx) (fun c => by rw [revN_mem, sX]))
  have hsB : w1.heap.size ≤ w4.heap.size := Nat.le_trans hb2.size (Nat.le_trans hb3.size hb4.size)
  have hs1 := hb1.size
  clear oX oY oZ sX sY sZ s0 s1 s2 p0 p1 p2 q0 q1 q2 r1 r2 hb2 hb3 hb4 b0 b1
  go_loopw [14] (fun t wr => ∃ i : Nat, i ≤ kx ∧ t = .int .i64 i ∧ Below w4.heap.size w4 wr) (fun t _ => kx - (intOf t).toNat)
  case atStart => exact ⟨0, Nat.zero_le _, rfl, Below.refl _ _⟩
  case round =>
    obtain ⟨i, hi, rfl, hb⟩ := hrel
    by_cases hlt : i < kx
    · obtain ⟨bx, ox, rfl, _, _⟩ := cX.here (by omega)
      have hii : (i : Int) < (kx : Int) := by omega
      have HX : Hid (∀ {w5 : World}, Below w4.heap.size w4 w5 → w5.cell? ⟨bx, ox + i * 2, none⟩ = some (.int .i64 (X i).line)) := hid (fun h => (cX.later h hlt).1)
      have HFi := hid (HF.out i hlt)
      generalize (X i).line = L at *
      clear cX HF HM t0 t2 hX4
      go_wp2
      go_loopw [15, 16] (fun f t wr2 => ∃ k : Nat, k ≤ ky ∧ t = .int .i64 k ∧ f = .bool (anyB Y k L) ∧ Below w4.heap.size w4 wr2) (fun _ t _ => ky - (intOf t).toNat)
      case atStart => exact ⟨0, Nat.zero_le _, rfl, rfl, hb⟩
      case round =>
        clear hb
        obtain ⟨k, hk, rfl, rfl, hb⟩ := hrel
        by_cases hlk : k < ky
        · obtain ⟨by', oy, rfl, _, _⟩ := cY.here (by omega)
          obtain ⟨d1, _, _⟩ := cY.later hb hlk
          have d2 := HX.out hb
          have hkk : (k : Int) < (ky : Int) := by omega
          have HS := hid (anyB_succ Y k L)
          generalize (Y k).line = M at *
          clear cY cZ
          cases hq : anyB Y k L with
          | true =>
            rw [hq] at HS
            go_wp2
            go_quiet (fail)
            go_wp2
            go_roundw
            case rel => exact ⟨k + 1, by omega, by go_num, by rw [HS.out]; rfl, below_drewN hb _⟩
            case measure => simp [intOf]; omega
          | false =>
            rw [hq] at HS
            go_wp2
            go_quiet (fail)
            go_wp2
            go_roundw
            case rel => exact ⟨k + 1, by omega, by go_num, by rw [HS.out]; rfl, below_drewN hb _⟩
            case measure => simp [intOf]; omega
        · obtain rfl : k = ky := by omega
          generalize anyB Y k L = FY at *
          go_wp2
          go_loopw [15, 17] (fun f t wr3 => ∃ j : Nat, j ≤ kz ∧ t = .int .i64 j ∧ f = .bool (FY || anyB Z j L) ∧ Below w4.heap.size w4 wr3) (fun _ t _ => kz - (intOf t).toNat)
          case atStart => exact ⟨0, Nat.zero_le _, rfl, by simp [anyB], hb⟩
          case round =>
            clear hb
            obtain ⟨j, hj, rfl, rfl, hb⟩ := hrel
            by_cases hlj : j < kz
            · obtain ⟨bz, oz, rfl, _, _⟩ := cZ.here (by omega)
              obtain ⟨d1, _, _⟩ := cZ.later hb hlj
              have d2 := HX.out hb
              have hjj : (j : Int) < (kz : Int) := by omega
              have HS := hid (anyB_succ Z j L)
              generalize (Z j).line = M at *
              clear cY cZ
              cases hq : (FY || anyB Z j L) with
              | true =>
                have HQ : Hid ((FY || anyB Z (j + 1) L) = true) := hid (by rw [HS.out, ← Bool.or_assoc, hq]; rfl)
                clear hq
                go_wp2
                go_quiet (fail)
                go_wp2
                go_roundw
                case rel => exact ⟨j + 1, by omega, by go_num, by rw [HQ.out], below_drewN hb _⟩
                case measure => simp [intOf]; omega
              | false =>
                have HQ : Hid ((FY || anyB Z (j + 1) L) = (M == L)) := hid (by rw [HS.out, ← Bool.or_assoc, hq]; rfl)
                clear hq
                go_wp2
                go_quiet (fail)
                go_wp2
                go_roundw
                case rel => exact ⟨j + 1, by omega, by go_num, by rw [HQ.out], below_drewN hb _⟩
                case measure => simp [intOf]; omega
            · obtain rfl : j = kz := by omega
              rw [HFi.out]
              go_wp2
              go_roundw
              case rel => exact ⟨i + 1, by omega, by go_num, hb⟩
              case measure => simp [intOf]; omega
    · obtain rfl : i = kx := by omega
      have hs4 := hb.size
      have hb0 := hb
      go_wp2
      go_loopw [18, 19] (fun q t wr => ∃ (j : Nat) (lo : Option Addr) (lc : Nat) (E : Nat → ChD), j ≤ i ∧ t = .int .i64 ((i : Int) - 1 - j) ∧ q = .slice lo j lc ∧ wr.ownsRow w4.heap.size 42 2 (.slice lo j lc) j (cellsN E j) ∧ Hid (saysN E j = revN X i j ∧ ∀ r, r < j → ∃ p, p < i ∧ E r = X p) ∧ Below w4.heap.size w4 wr) (fun _ t _ => (intOf t + 1).toNat)
      case atStart => exact ⟨0, none, 0, default, Nat.zero_le _, by simp, rfl, World.ownsRow_nil _ _ _ _, hid ⟨rfl, fun r hr => absurd hr (by omega)⟩, hb⟩
      case round =>
        clear hb hs4 hb0
        obtain ⟨j, lo, lc, E, hj, rfl, rfl, hown, HE, hb⟩ := hrel
        by_cases hlj : j < i
        · obtain ⟨bx, ox, rfl, _, _⟩ := cX.here (by omega)
          obtain ⟨p, hp⟩ : ∃ p, p = i - 1 - j := ⟨_, rfl⟩
          have hpi : p < i := by omega
          obtain ⟨d1, d2, ok⟩ := cX.later hb hpi
          have e1 : (i : Int) - 1 - j = (p : Int) := by omega
          have hp0 : (0 : Int) ≤ p := by omega
          have HR := hid (revN_succ X i j)
          have HP := hid hp
          have H2 : Hid (∀ r, r < j → ∃ p, p < i ∧ E r = X p) := hid HE.out.2
          have H1 := hid HE.out.1
          have hsz := hb.size
          have hb32 : (j + 1) * 32 ≤ 140737488355328 := by omega
          have HS : Hid (saysN (catD E j (fun _ => X p)) (j + 1) = revN X i (j + 1)) := hid (by rw [catD_says, HR.out, H1.out, ← HP.out]; rfl)
          have H3 : Hid (∀ r, r < j + 1 → ∃ p', p' < i ∧ catD E j (fun _ => X p) r = X p') := hid (fun r hr => by
            by_cases e : r < j
            · obtain ⟨q, hq, he⟩ := H2.out r e
              exact ⟨q, hq, by simp [catD, e, he]⟩
            · exact ⟨p, hpi, by simp [catD, e]⟩)
          have hbA : Below wr.heap.size wr (wr.alloc (.cells #[.int .i64 (X p).line, .slice (X p).ba (X p).bl (X p).bc] 42)) := (Below.refl _ _).alloc (Nat.le_refl _) _
          have hownA : (wr.alloc (.cells #[.int .i64 (X p).line, .slice (X p).ba (X p).bl (X p).bc] 42)).ownsRow w4.heap.size 42 2 (.slice lo j lc) j (cellsN E j) := by
            refine ⟨hown.1, ?_⟩
            rcases hown.2 with hn | ⟨g, cap', cur, hv, hg, hh, r⟩
            · exact Or.inl hn
            · exact Or.inr ⟨g, cap', cur, hv, hg, by rw [hbA.block g (Array.getElem?_eq_some_iff.1 hh).1]; exact hh, r⟩
          have hsrc : Chs (wr.alloc (.cells #[.int .i64 (X p).line, .slice (X p).ba (X p).bl (X p).bc] 42)) (some ⟨wr.heap.size, 0, none⟩) 1 (fun _ => X p) :=
            ⟨by omega, fun _ => ⟨wr.heap.size, 0, rfl, by simp, fun t ht => by obtain rfl : t = 0 := (by omega); exact ⟨by simp, by simp⟩⟩, fun t ht => ok.below hbA⟩
          have hszA : w4.heap.size ≤ (wr.alloc (.cells #[.int .i64 (X p).line, .slice (X p).ba (X p).bl (X p).bc] 42)).heap.size := Nat.le_trans hsz hbA.size
          have hbA4 := hb.trans (hbA.mono hsz)
          rw [e1]
          clear hp cX ok e1
          go_wp2_with (first
            | (at_builtin; refine append_chgs rfl (.tmp 107) (.tmp 112) rfl w4.heap.size _ j E rfl hownA (some ⟨wr.heap.size, 0, none⟩) 1 1 (fun _ => X p) rfl hsrc (fun h => by cases h) hb32 hszA ?_; intro bo' c' w' hown' hgrow; have hb' := hbA4.grown hgrow hszA (fun b hb' => (hownA.lt b hb').1)))
          go_roundw
          case rel => exact ⟨j + 1, bo', c', _, by omega, by rw [HP.out]; simp; omega, rfl, hown', hid ⟨HS.out, H3.out⟩, hb'⟩
          case measure => simp [intOf]
        · obtain rfl : j = i := by omega
          have e1 : (j : Int) - 1 - j = -1 := by omega
          rw [e1]
          have hok : ∀ r, r < j → ChOk wr (E r) := fun r hr => by
            obtain ⟨p, hp, e⟩ := HE.out.2 r hr
            rw [e]
            exact (cX.below hb).ok p hp
          have hE := chs_of_row hown hok
          have u0 := t0.below hb
          have u2 := t2.below hb
          have HO : Hid (okA (len0 / 64) (saysN E j) = true ∧ layN z0 (saysN E j) = z2) := hid (by rw [HE.out.1, hN]; exact HM.out)
          clear cX cY cZ hok hown t0 t2
          go_wp2_with (first
            | (go_at_call 17; with_reducible refine (apply_any _ _ _ z0 _ _ _ E _ u0 hE h64 n0).mono ?_; rintro e w5 ⟨hb5, _, hgood⟩; obtain ⟨g, rfl, hown5⟩ := hgood HO.out.1; rw [HO.out.2] at hown5; have tx := hown5.sl.text (P := Try.prog) Try.underlying22 Try.underlying5 Try.underlying9; have ty := (u2.below hb5).text (P := Try.prog) Try.underlying22 Try.underlying5 Try.underlying9))
          go_ret
          exact ⟨rfl, next (hb14.trans (hb.mono (Nat.le_trans hs1 hsB))) hb5⟩
theorem linesMerges_walk (w : World) (a0 : Option Addr) (len0 cap0 : Nat) (z0 : List Int) (s0 : Sl .u8 w a0 len0 cap0 z0) (f0 : ∀ n ∈ z0, (Lit.int .u8 n).wf = true) (c0 : cap0 * 1 ≤ 140737488351232)
    (a1 : Option Addr) (len1 cap1 : Nat) (z1 : List Int) (s1 : Sl .u8 w a1 len1 cap1 z1) (f1 : ∀ n ∈ z1, (Lit.int .u8 n).wf = true) (c1 : cap1 * 1 ≤ 140737488351232)
    (a2 : Option Addr) (len2 cap2 : Nat) (z2 : List Int) (s2 : Sl .u8 w a2 len2 cap2 z2) (f2 : ∀ n ∈ z2, (Lit.int .u8 n).wf = true) (c2 : cap2 * 1 ≤ 140737488351232) :
    Calls Try.prog 7 #[.slice a0 len0 cap0, .slice a1 len1 cap1, .slice a2 len2 cap2] w fun e w' => e = .returned (.bool true) ∧ Below w.heap.size w w' := by
  have r0 := s0.room
  have r1 := s1.room
  have r2 := s2.room
  by_cases h : (len0 % 64 = 0 ∧ len0 = len2) ∧ (len0 % 64 = 0 ∧ len0 = len1)
  · obtain ⟨⟨h64, rfl⟩, _, rfl⟩ := h
    exact merges_good w a0 len0 cap0 z0 s0 (bytes_wf f0) (by omega) (by omega) a1 cap1 z1 s1 (bytes_wf f1) (by omega) a2 cap2 z2 s2 (bytes_wf f2) (by omega) h64
  · exact merges_badA w a0 len0 cap0 z0 s0 (bytes_wf f0) (by omega) (by omega) a1 len1 cap1 z1 s1 (bytes_wf f1) (by omega) (by omega) a2 len2 cap2 z2 s2 (bytes_wf f2) (by omega) (by omega) diff_res (by omega)
end Go.Proofs.Ytjmmppphdmpceaa
