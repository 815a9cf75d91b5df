/- 'TagsReads' walked: what is read is the document's. -/
import Derived.Test.YtclkooaepfedaaaDoorMhD
import Derived.Test.YtclkooaepfedaaaDoorSame
import Derived.BigQuiet
namespace Go.Proofs.YtclkooaepfedaaaDoor
set_option maxRecDepth 100000
open Go.RowKit
set_option linter.unusedVariables false
set_option linter.unusedSimpArgs false
set_option maxRecDepth 100000

/-- What bytes and heads are read as. -/
def WhP (f t : Int) (zs hs : List Int) (L : List Blk) (D : List (List Int)) (r : Bool) : Prop := (r = true ∧ IsHeap f t zs hs L ∧ D = fullD f zs L) ∨ (r = false ∧ (¬ ∃ L, IsHeap f t zs hs L) ∧ L = [] ∧ D = [])
/-- Rows of the call's own, each in a block of its own. -/
structure RowsO (B : Nat) (w : World) (dt : Option Addr) (k dc : Nat) (vs : List Value) (A : Nat → Option Addr) (N C : Nat → Nat) (D : List (List Int)) : Prop where
  vl : vs.length = k
  row : w.ownsRow B 26 1 (.slice dt k dc) k vs
  vals : ∀ i, i < k → vs[i]? = some (.slice (A i) (N i) (C i))
  own : ∀ i, i < k → Own .u8 5 B w (A i) (N i) (C i) (da D i)
  apart : ∀ i j, i < j → j < k → ∀ a b, A i = some a → A j = some b → a.block ≠ b.block
theorem RowsO.below {B : Nat} {w w' : World} {dt : Option Addr} {k dc : Nat} {vs : List Value} {A : Nat → Option Addr} {N C : Nat → Nat} {D : List (List Int)} (h : RowsO B w dt k dc vs A N C D) (hb : Below w.heap.size w w') : RowsO B w' dt k dc vs A N C D := ⟨h.vl, ownsRow_below h.row hb, h.vals, fun i hi => (h.own i hi).below hb, h.apart⟩
theorem RowsO.cells {B : Nat} {w : World} {dt : Option Addr} {k dc : Nat} {vs : List Value} {A : Nat → Option Addr} {N C : Nat → Nat} {D : List (List Int)} (h : RowsO B w dt k dc vs A N C D) : (∀ ad, dt = some ad → ∀ j u, vs[j]? = some u → w.cell? (ad.add j) = some u) ∧ (dt = none → k = 0 ∧ dc = 0) ∧ ∀ u ∈ vs, u.oneCell' = true := by
  refine ⟨fun ad e j u hu => ?_, fun e => ?_, fun u hu => ?_⟩
  · have hj : j < k := by
      have := (List.getElem?_eq_some_iff.1 hu).1
      have := h.vl
      omega
    obtain ⟨g, c1, hg⟩ := own_shape h.row (by omega)
    simp only [Value.slice.injEq, true_and] at hg
    have h1 := h.row
    rw [hg.1] at h1
    rw [e] at hg
    obtain ⟨hg, _⟩ := hg
    cases hg
    rw [Addr.add_lit, Nat.zero_add, h1.cellAt j (by omega)]
    exact hu
  · rcases h.row.2 with ⟨hv, hn⟩ | ⟨g', cap', cur, hv, _⟩
    · simp only [Value.slice.injEq] at hv
      exact ⟨hn, hv.2.2⟩
    · rw [e] at hv
      simp at hv
  · obtain ⟨i, hi, rfl⟩ := List.getElem_of_mem hu
    have := h.vals i (by have := h.vl; omega)
    rw [List.getElem?_eq_getElem hi] at this
    simp only [Option.some.injEq] at this
    rw [this]
    rfl
theorem read_out (f t : Int) (ao : Option Addr) (n cap : Nat) (zs : List Int) (ho : Option Addr) (hm hc : Nat) (hs : List Int) (w : World) (T : Mst w) (h : Sl .u8 w ao n cap zs) (hby : Bytes zs) (hcap : cap ≤ 9223372036854775807) (hn : n ≤ 140737488355328) (hh : Sl .i64 w ho hm hc hs) (hhm : hm ≤ 140737488355328) :
    Calls Tryd.prog 18 #[.int .i64 f, .int .i64 t, .slice ao n cap, .slice ho hm hc] w fun e w' => ∃ uo k uc dt dc A N C vs L D r, e = .returned (.tuple #[.slice uo k uc, .slice dt k dc, .bool r]) ∧ WhP f t zs hs L D r ∧ Bs w' uo k uc L ∧ Rd w' dt k dc A N C D ∧ RowsO w.heap.size w' dt k dc vs A N C D ∧ k ≤ 32 ∧ Below w.heap.size w w' := by
  by_cases hH : ∃ L, IsHeap f t zs hs L
  · obtain ⟨L, hL⟩ := hH
    refine (read_ok f t ao n cap zs ho hm hc hs L w T h hby hcap hh hhm hL).mono ?_
    rintro e w' ⟨uo, uc, dg, dc, A, N, C, rfl, k1, k2, k3⟩
    obtain ⟨vs, h1, h2⟩ := k2.row
    have hl := hL.ok.1.hold.few
    refine ⟨uo, _, uc, _, dc, A, N, C, vs, L, fullD f zs L, true, rfl, .inl ⟨rfl, hL, rfl⟩, k1.bs, k2.rd (fullD_length _ _ _) (fun i hi => by rw [da_full f zs L hi]; exact inL_bytes hby), ⟨by have := h1.1; omega, h1, h2, k2.own, k2.apart⟩, hl, k3⟩
  · refine (read_bad f t ao n cap zs ho hm hc hs w T h hby hcap hn hh hhm hH).mono ?_
    rintro e w' ⟨rfl, k⟩
    exact ⟨none, 0, 0, none, 0, fun _ => none, fun _ => 0, fun _ => 0, [], [], [], false, rfl, .inr ⟨rfl, hH, rfl, rfl⟩, bs_nil _, rd_nil _ _ _ _, ⟨rfl, World.ownsRow_nil _ _ _ _, fun i hi => absurd hi (by omega), fun i hi => absurd hi (by omega), fun i j _ hj => absurd hj (by omega)⟩, by omega, k⟩
theorem rread_out (f t : Int) (ao : Option Addr) (n cap : Nat) (zs : List Int) (ho : Option Addr) (hm hc : Nat) (hs : List Int) (w : World) (h : Sl .u8 w ao n cap zs) (hby : Bytes zs) (hcap : cap ≤ 9223372036854775807) (hn : n ≤ 140737488355328) (hh : Sl .i64 w ho hm hc hs) (hhm : hm ≤ 140737488355328) (L : List Blk) (D : List (List Int)) (r : Bool) (k : Nat) (hk : L.length = k) (hW : WhP f t zs hs L D r) :
    Calls Tryd.prog 19 #[.int .i64 f, .int .i64 t, .slice ao n cap, .slice ho hm hc] w fun e w' => ∃ uo uc dt dc A N C, e = .returned (.tuple #[.slice uo k uc, .slice dt k dc, .bool r]) ∧ Bs w' uo k uc L ∧ Rd w' dt k dc A N C D ∧ Below w.heap.size w w' := by
  subst hk
  refine (rread_any f t ao n cap zs ho hm hc hs w h hby hcap hn hh hhm).mono ?_
  rintro e w' ⟨⟨L', hL', bo, c, dt, dc, A, N, C, rfl, k1, k2⟩ | ⟨hno, rfl⟩, hb⟩
  · rcases hW with ⟨rfl, hL, rfl⟩ | ⟨_, hn, _⟩
    · obtain rfl := hL.one hL'
      exact ⟨bo, c, dt, dc, A, N, C, rfl, k1, k2, hb⟩
    · exact absurd ⟨L', hL'⟩ hn
  · rcases hW with ⟨rfl, hL, rfl⟩ | ⟨rfl, hn, rfl, rfl⟩
    · exact absurd ⟨L, hL⟩ hno
    · exact ⟨none, 0, none, 0, fun _ => none, fun _ => 0, fun _ => 0, rfl, bs_nil _, rd_nil _ _ _ _, hb⟩
set_option maxHeartbeats 4000000 in
theorem tagsReads_walk (w : World) (T : Mst w) (f : Int) (hf : (Lit.int .i64 f).wf = true) (t : Int) (ht : (Lit.int .i64 t).wf = true) (yo : Option Addr) (ny yc : Nat) (ys : List Int) (hy : Sl .u8 w yo ny yc ys) (hyw : ∀ z ∈ ys, (Lit.int .u8 z).wf = true) (hyc : yc * 1 ≤ 140737488351232) (ho : Option Addr) (nh hhc : Nat) (hs : List Int) (hh : Sl .i64 w ho nh hhc hs) (hhw : ∀ z ∈ hs, (Lit.int .i64 z).wf = true) (hhr : hhc * 8 ≤ 140737488351232) :
    Calls Tryd.prog 4 #[.int .i64 f, .int .i64 t, .slice yo ny yc, .slice ho nh hhc] w fun e w' => e = .returned (.bool true) ∧ Below w.heap.size w w' := by
  have hyl := hy.len
  have hyr := hy.room
  have hhl := hh.room
  have cM := smallT_any w T
  by_cases h15 : ny ≤ 32768
  · have h15' : ¬ ((32768 : Int) < (ny : Int)) := by omega
    have hyb : Bytes ys := bytes_wf hyw
    have Hy := hid hy
    have Hh := hid hh
    have HT := hid T
    have HLn : Hid (∀ w1, Below w.heap.size w w1 → Calls Tryd.prog 10 #[.slice yo ny yc] w1 fun e w' => e = .returned (.slice (some ⟨w1.heap.size, 0, none⟩) ny (ny + 1)) ∧ Lentd w' w1.heap.size ys ∧ Below w1.heap.size w1 w') := hid (fun w1 hb => lent_any yo ny yc ys w1 (Hy.out.below hb) (by omega))
    have HRd : Hid (∀ w2 g, Below w.heap.size w w2 → Lentd w2 g ys → Calls Tryd.prog 18 #[.int .i64 f, .int .i64 t, .slice (some ⟨g, 0, none⟩) ny (ny + 1), .slice ho nh hhc] w2 fun e w' => ∃ uo k uc dt dc A N C vs L D r, e = .returned (.tuple #[.slice uo k uc, .slice dt k dc, .bool r]) ∧ WhP f t ys hs L D r ∧ Bs w' uo k uc L ∧ Rd w' dt k dc A N C D ∧ RowsO w2.heap.size w' dt k dc vs A N C D ∧ k ≤ 32 ∧ Below w2.heap.size w2 w') := hid (fun w2 g hb hl => read_out f t _ ny (ny + 1) ys ho nh hhc hs w2 (HT.out.kept hb) (hl.sl hyl) hyb (by omega) (by omega) (Hh.out.below hb) (by omega))
    have HKp : Hid (∀ w3 g, Below w.heap.size w w3 → Lentd w3 g ys → Calls Tryd.prog 13 #[.slice (some ⟨g, 0, none⟩) ny (ny + 1), .slice yo ny yc] w3 fun e w' => e = .returned (.bool true) ∧ w3 = w') := hid (fun w3 g hb hl => kept_any g yo ny yc ys w3 hl (Hy.out.below hb) (by omega))
    have HRr : Hid (∀ w3 L D r k, Below w.heap.size w w3 → L.length = k → WhP f t ys hs L D r → Calls Tryd.prog 19 #[.int .i64 f, .int .i64 t, .slice yo ny yc, .slice ho nh hhc] w3 fun e w' => ∃ uo uc dt dc A N C, e = .returned (.tuple #[.slice uo k uc, .slice dt k dc, .bool r]) ∧ Bs w' uo k uc L ∧ Rd w' dt k dc A N C D ∧ Below w3.heap.size w3 w') := hid (fun w3 L D r k hb hk hW => rread_out f t yo ny yc ys ho nh hhc hs w3 (Hy.out.below hb) hyb (by omega) (by omega) (Hh.out.below hb) (by omega) L D r k hk hW)
    clear hy hh T hyw hhw hf ht hyb
    go_enter Tryd.func4, Tryd.ntmps4
    go_wp2_with (first
      | (go_at_call 8; with_reducible refine cM.mono ?_; rintro e w1 ⟨rfl, hb1⟩; have cLn := HLn.out w1 hb1; clear cM HLn)
      | (go_at_call 10; with_reducible refine cLn.mono ?_; rintro e w2 ⟨rfl, l2, b2⟩; have hb2 := next hb1 b2; have cRd := HRd.out w2 _ hb2 l2; have L2 := hid l2; clear cLn HRd l2)
      | (go_at_call 18; with_reducible refine cRd.mono ?_; rintro e w3 ⟨uo, k, uc, dt, dc, A, N, C, vs, L, D, r, rfl, q1, q2, q3, q4, q5, b3⟩; have hb3 := next hb2 b3; have L3 := hid (L2.out.below b3); have Q2 := hid q2; have Q3 := hid q3; have Q4 := hid q4; have cKp := HKp.out w3 _ hb3 L3.out; have cRr := HRr.out w3 L D r k hb3 q2.len q1; clear cRd q1 q2 q3 q4 b3 HKp HRr)
      | (go_at_call 13; with_reducible refine cKp.mono ?_; rintro e w4 ⟨rfl, rfl⟩; clear cKp)
      | (go_at_call 19; with_reducible refine cRr.mono ?_; rintro e w5 ⟨xo, xc, et, ec, A', N', C', rfl, p1, p2, b5⟩; have B5 := hid b5; have hb5 := next hb3 b5; have P1 := hid p1; have P2 := hid p2; clear p1 p2 b5 cRr))
    have hlk : L.length = k := Q2.out.len
    have cS := rsame_bs uo k uc xo xc L w5 (Q2.out.below B5.out) P1.out (by omega)
    have HSR : Hid (∀ w6, Below w5.heap.size w5 w6 → Calls Tryd.prog 21 #[.slice dt k dc, .slice et k ec] w6 fun e w' => e = .returned (.bool true) ∧ Below w6.heap.size w6 w') := hid (fun w6 b6 => rrows_rd dt k dc A N C et ec A' N' C' D w6 ((Q3.out.below B5.out).below b6) (P2.out.below b6) (by omega))
    have hg1 : w1.heap.size < w2.heap.size := L2.out.lt
    have HM : Hid (∀ w7, Below w5.heap.size w5 w7 → ((w7.alloc (.cells #[] 26)).ownsRow w7.heap.size 26 1 (.slice (some ⟨w7.heap.size, 0, none⟩) 0 0) 0 [] ∧ RowsO w2.heap.size (w7.alloc (.cells #[] 26)) dt k dc vs A N C D ∧ w7.heap.size ≤ (w7.alloc (.cells #[] 26)).heap.size) ∧
        ∀ w8 r8 c8, w8.ownsRow w7.heap.size 26 1 (.slice r8 k c8) k vs → (w7.alloc (.cells #[] 26)).grownBy w8 (some w7.heap.size) → ((w8.alloc (.cells #[.slice (some ⟨w1.heap.size, 0, none⟩) ny (ny + 1)] 26)).ownsRow w7.heap.size 26 1 (.slice r8 k c8) k vs ∧ w7.heap.size ≤ (w8.alloc (.cells #[.slice (some ⟨w1.heap.size, 0, none⟩) ny (ny + 1)] 26)).heap.size) ∧
        ∀ w9 r9 c9, w9.ownsRow w7.heap.size 26 1 (.slice r9 (k + 1) c9) (k + 1) (vs ++ [.slice (some ⟨w1.heap.size, 0, none⟩) ny (ny + 1)]) → (w8.alloc (.cells #[.slice (some ⟨w1.heap.size, 0, none⟩) ny (ny + 1)] 26)).grownBy w9 (Value.slice r8 k c8).ownBlock → Calls Tryd.prog 15 #[.slice r9 (k + 1) c9] w9 fun e w' => e = .returned (.bool true) ∧ Below w.heap.size w w') := hid (fun w7 b7 => by
      have hb7 := next hb5 b7
      have ba : Below w7.heap.size w7 (w7.alloc (.cells #[] 26)) := (Below.refl _ _).alloc (Nat.le_refl _) _
      have R7 := (Q4.out.below B5.out).below b7
      have L7 := (L3.out.below B5.out).below b7
      refine ⟨⟨World.ownsRow_made w7 #[] 0 (Nat.le_refl _) (Nat.zero_le _) rfl, R7.below ba, ba.size⟩, fun w8 r8 c8 ho8 hg8 => ?_⟩
      have b8 : Below w7.heap.size w7 w8 := ba.grown hg8 ba.size (fun b e => by cases e; exact Nat.le_refl _)
      have bc : Below w8.heap.size w8 (w8.alloc (.cells #[.slice (some ⟨w1.heap.size, 0, none⟩) ny (ny + 1)] 26)) := (Below.refl _ _).alloc (Nat.le_refl _) _
      have bd := next b8 bc
      have hr8 := ownsRow_below ho8 bc
      refine ⟨⟨hr8, bd.size⟩, fun w9 r9 c9 ho9 hg9 => ?_⟩
      have b9 : Below w7.heap.size w7 w9 := bd.grown hg9 bd.size (fun b e => (hr8.lt b e).1)
      have hb9 := next hb7 b9
      have R9 := R7.below b9
      refine (owned_read (B := w.heap.size) (by omega) R9.vl (ownsRow_mono ho9 hb7.size) R9.vals (D := da D) (fun i hi => (R9.own i hi).mono hb2.size) R9.apart (L7.below b9) hyl (by omega) hb1.size (fun i hi a ea => ?_) hb9.size).mono ?_
      · have := ((R9.own i hi).row.lt a.block (by rw [ea]; rfl)).1
        omega
      · rintro e w' ⟨rfl, k8⟩
        exact ⟨rfl, hb9.trans k8⟩)
    have hk60 : (0 + k) * 24 ≤ 140737488355328 := by omega
    have hk61 : (k + 1) * 24 ≤ 140737488355328 := by omega
    have hrr : (r == r) = true := by simp
    clear L2 L3 Q2 Q3 Q4 B5 P1 P2 Hy Hh HT
    go_wp2_with (first
      | (go_at_call 20; with_reducible refine cS.mono ?_; rintro e w6 ⟨rfl, b6⟩; have cSR := HSR.out w6 b6; clear cS HSR)
      | (go_at_call 21; with_reducible refine cSR.mono ?_; rintro e w7 ⟨rfl, b7⟩; obtain ⟨⟨g1, g2, g3⟩, HM2⟩ := HM.out w7 (next b6 b7); have G1 := hid g1; have G2 := hid g2; have G3 := hid g3; have M2 := hid HM2; clear g1 g2 g3 HM2 HM cSR b6 b7)
      | (at_builtin; refine append_rows rfl (.tmp 56) (.tmp 57) rfl w7.heap.size _ 0 [] rfl G1.out dt k dc vs rfl G2.out.vl G2.out.cells.1 G2.out.cells.2.1 G2.out.cells.2.2 hk60 G3.out ?_))
    intro r8 c8 w8 ho8 hg8
    obtain ⟨⟨g4, g5⟩, HM3⟩ := M2.out w8 r8 c8 ho8 hg8
    have G4 := hid g4
    have G5 := hid g5
    have M3 := hid HM3
    clear ho8 hg8 G1 G2 G3 M2 g4 g5 HM3
    go_wp2_with (first
      | (at_builtin; refine append_rows rfl (.tmp 58) (.tmp 60) rfl w7.heap.size _ k _ rfl G4.out (some ⟨w8.heap.size, 0, none⟩) 1 1 [.slice (some ⟨w1.heap.size, 0, none⟩) ny (ny + 1)] rfl rfl (one_cell _) (by intro e; cases e) ?v2 hk61 G5.out ?_))
    case v2 =>
      intro u hu
      simp at hu
      subst hu
      rfl
    intro r9 c9 w9 ho9 hg9
    have cO := M3.out w9 r9 c9 ho9 hg9
    clear ho9 hg9 M3 G4 G5
    go_wp2_with (first
      | (go_at_call 15; with_reducible refine cO.mono ?_; rintro e w10 ⟨rfl, hb10⟩; clear cO))
    go_ret
    exact ⟨by simp, hb10⟩
  · have h15' : (32768 : Int) < (ny : Int) := by omega
    clear hy hh hyw hhw
    go_enter Tryd.func4, Tryd.ntmps4
    go_wp2_with (first
      | (go_at_call 8; with_reducible refine cM.mono ?_; rintro e w1 ⟨rfl, hb1⟩))
    go_ret
    exact ⟨rfl, hb1⟩
end Go.Proofs.YtclkooaepfedaaaDoor
