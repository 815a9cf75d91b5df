/- 'SlabReads' walked: what is read is the document's. -/
import Derived.Test.YtfnnelkipdajiaaDoorMsB
import Derived.Test.YtfnnelkipdajiaaDoorOwnRd
import Derived.Test.YtfnnelkipdajiaaDoorRowS
import Derived.Test.YtfnnelkipdajiaaDoorSame
namespace Go.Proofs.YtfnnelkipdajiaaDoor
set_option maxRecDepth 100000
open Go.RowKit
set_option linter.unusedVariables false
set_option linter.unusedSimpArgs false
set_option maxRecDepth 100000

theorem rd_few (b : List Int) : (rdL' b).length ≤ 14 ∧ (rdD b).length ≤ 14 ∧ (rdL' b).length = (rdD b).length := by
  by_cases h : RdS b
  · obtain ⟨_, e2, e3, _⟩ := rs_t h
    rw [e2, e3]
    have h1 := h.2.1.1.len
    have h2 := h.2.1.2.2.1
    exact ⟨h1, by omega, h2⟩
  · obtain ⟨_, e2, e3, _⟩ := rs_f h
    rw [e2, e3]
    simp
theorem rd_bytes {b : List Int} (hb : Bytes b) : ∀ i, i < (rdD b).length → Bytes (da (rdD b) i) := by
  intro i hi
  by_cases h : RdS b
  · obtain ⟨_, _, e3, _⟩ := rs_t h
    rw [e3] at hi ⊢
    have hi' : i < (rsL b).length := by simpa [rsD] using hi
    have e : da (rsD b) i = (b.drop (cB (rsC b) (cA (rsL b) i))).take (wB8 (rsC b)) := by simp [da, rsD, cA, List.getD, hi']
    rw [e]
    exact fun z hz => hb z (List.mem_of_mem_drop (List.mem_of_mem_take hz))
  · obtain ⟨_, _, e3, _⟩ := rs_f h
    rw [e3] at hi
    simp at hi
set_option maxHeartbeats 4000000 in
theorem slabReads_walk (w : World) (T : Cws w) (yo : Option Addr) (ny yc : Nat) (ys : List Int) (hy : Sl .u8 w yo ny yc ys) (hyw : ∀ z ∈ ys, (Lit.int .u8 z).wf = true) (hyc : yc * 1 ≤ 140737488351232) :
    Calls Tryd.prog 4 #[.slice yo ny yc] w fun e w' => e = .returned (.bool true) ∧ Below w.heap.size w w' := by
  have hyl := hy.len
  have hyr := hy.room
  have cM := smallS_any w T
  have hyb : Bytes ys := bytes_wf hyw
  obtain ⟨f1, f2, f3⟩ := rd_few ys
  have HRB := hid (rd_bytes hyb)
  have Hy := hid hy
  have HT := hid T
  have HLn : Hid (∀ w1, Below w.heap.size w w1 → Calls Tryd.prog 10 #[.slice yo ny yc] w1 fun e w' => e = .returned (.slice (some ⟨w1.heap.size, 0, none⟩) ny (ny + 1)) ∧ Lentd w' w1.heap.size ys ∧ Below w1.heap.size w1 w') := hid (fun w1 hb => lent_any yo ny yc ys w1 (Hy.out.below hb) (by omega))
  have HRd : Hid (∀ w2 g, Below w.heap.size w w2 → Lentd w2 g ys → Calls Tryd.prog 17 #[.slice (some ⟨g, 0, none⟩) ny (ny + 1)] w2 fun e w' => ∃ co cm cc dt dm dc A N C, e = .returned (.tuple #[.int .i64 (rdC ys), .slice co cm cc, .slice dt dm dc, .int .i64 (rdN ys), .int .i64 (rdP ys), .bool (rsB ys)]) ∧ Own .i64 3 w2.heap.size w' co cm cc (rdL' ys) ∧ OwR w2.heap.size w' dt dm dc A N C (rdD ys) ∧ Below w2.heap.size w2 w') := hid (fun w2 g hb hl => sread_own _ ny (ny + 1) ys w2 (hl.sl hyl) hyb (by omega) (HT.out.kept hb))
  have HKp : Hid (∀ w3 g, Below w.heap.size w w3 → Lentd w3 g ys → Calls Tryd.prog 13 #[.slice (some ⟨g, 0, none⟩) ny (ny + 1), .slice yo ny yc] w3 fun e w' => e = .returned (.bool true) ∧ w3 = w') := hid (fun w3 g hb hl => kept_any g yo ny yc ys w3 hl (Hy.out.below hb) (by omega))
  have HRr : Hid (∀ w3, Below w.heap.size w w3 → Calls Tryd.prog 18 #[.slice yo ny yc] w3 fun e w' => ∃ co cm cc dt dm dc A N C, e = .returned (.tuple #[.int .i64 (rdC ys), .slice co cm cc, .slice dt dm dc, .int .i64 (rdN ys), .int .i64 (rdP ys), .bool (rsB ys)]) ∧ Own .i64 3 w3.heap.size w' co cm cc (rdL' ys) ∧ OwR w3.heap.size w' dt dm dc A N C (rdD ys) ∧ Below w3.heap.size w3 w') := hid (fun w3 hb => rreadS_sl yo ny yc ys w3 (Hy.out.below hb) hyb)
  clear hy T hyw hyb
  generalize rdC ys = RC at *
  generalize rdN ys = RN at *
  generalize rdP ys = RP at *
  generalize rsB ys = r at *
  generalize rdL' ys = RL at *
  generalize rdD ys = D at *
  go_enter Tryd.func4, Tryd.ntmps4
  go_wp2_with (first
    | (go_at_call 8; with_reducible refine cM.mono ?_; rintro e w1 ⟨rfl, hb1⟩; have cLn := HLn.out w1 hb1; clear cM HLn)
    | (go_at_call 10; with_reducible refine cLn.mono ?_; rintro e w2 ⟨rfl, l2, b2⟩; have hb2 := next hb1 b2; have cRd := HRd.out w2 _ hb2 l2; have L2 := hid l2; clear cLn HRd l2)
    | (go_at_call 17; with_reducible refine cRd.mono ?_; rintro e w3 ⟨uo, k, uc, dt, dm, dc, A, N, C, rfl, q2, q3, b3⟩; have hb3 := next hb2 b3; have L3 := hid (L2.out.below b3); have Q2 := hid q2; have Q3 := hid q3; have cKp := HKp.out w3 _ hb3 L3.out; have cRr := HRr.out w3 hb3; clear cRd q2 q3 b3 HKp HRr)
    | (go_at_call 13; with_reducible refine cKp.mono ?_; rintro e w4 ⟨rfl, rfl⟩; clear cKp)
    | (go_at_call 18; with_reducible refine cRr.mono ?_; rintro e w5 ⟨xo, xm, xc, et, em, ec, A', N', C', rfl, p1, p2, b5⟩; have B5 := hid b5; have hb5 := next hb3 b5; have P1 := hid p1; have P2 := hid p2; clear p1 p2 b5 cRr)
    | (go_at_call 19; fail))
  have hk1 := Q2.out.len
  have hk2 := P1.out.len
  have hk3 := Q3.out.len
  have hk4 := P2.out.len
  obtain rfl : k = xm := by omega
  obtain rfl : dm = em := by omega
  have cS : Calls Tryd.prog 19 #[.slice uo k uc, .slice xo k xc] w5 fun e w' => e = .returned (.bool true) ∧ Below w5.heap.size w5 w' := by
    have := same_any uo k uc RL xo k xc RL w5 (Q2.out.below B5.out).sl P1.out.sl (by omega) (by omega)
    rwa [show (RL == RL) = true by simp] at this
  have HSR : Hid (∀ w6, Below w5.heap.size w5 w6 → Calls Tryd.prog 20 #[.slice dt dm dc, .slice et dm ec] w6 fun e w' => e = .returned (.bool true) ∧ Below w6.heap.size w6 w') := hid (fun w6 b6 => rrows_rd dt dm dc A N C et ec A' N' C' D w6 (((Q3.out.below B5.out).below b6).rd (fun i hi => HRB.out i (by omega))) ((P2.out.below b6).rd (fun i hi => HRB.out i (by omega))) (by omega))
  have hg1 : w1.heap.size < w2.heap.size := L2.out.lt
  have HM : Hid (∀ w7, Below w5.heap.size w5 w7 → ((w7.alloc (.cells #[] 26)).ownsRow w7.heap.size 26 1 (.slice (some ⟨w7.heap.size, 0, none⟩) 0 0) 0 [] ∧ OwR w2.heap.size (w7.alloc (.cells #[] 26)) dt dm dc A N C D ∧ w7.heap.size ≤ (w7.alloc (.cells #[] 26)).heap.size) ∧
      ∀ w8 r8 c8, w8.ownsRow w7.heap.size 26 1 (.slice r8 dm c8) dm ((List.range dm).map (sliV A N C)) → (w7.alloc (.cells #[] 26)).grownBy w8 (some w7.heap.size) → ((w8.alloc (.cells #[.slice (some ⟨w1.heap.size, 0, none⟩) ny (ny + 1)] 26)).ownsRow w7.heap.size 26 1 (.slice r8 dm c8) dm ((List.range dm).map (sliV A N C)) ∧ w7.heap.size ≤ (w8.alloc (.cells #[.slice (some ⟨w1.heap.size, 0, none⟩) ny (ny + 1)] 26)).heap.size) ∧
      ∀ w9 r9 c9, w9.ownsRow w7.heap.size 26 1 (.slice r9 (dm + 1) c9) (dm + 1) ((List.range dm).map (sliV A N C) ++ [.slice (some ⟨w1.heap.size, 0, none⟩) ny (ny + 1)]) → (w8.alloc (.cells #[.slice (some ⟨w1.heap.size, 0, none⟩) ny (ny + 1)] 26)).grownBy w9 (Value.slice r8 dm c8).ownBlock → Calls Tryd.prog 14 #[.slice r9 (dm + 1) c9] w9 fun e w' => e = .returned (.bool true) ∧ Below w.heap.size w w') := hid (fun w7 b7 => by
    have hb7 := next hb5 b7
    have ba : Below w7.heap.size w7 (w7.alloc (.cells #[] 26)) := (Below.refl _ _).alloc (Nat.le_refl _) _
    have R7 := (Q3.out.below B5.out).below b7
    have L7 := (L3.out.below B5.out).below b7
    refine ⟨⟨World.ownsRow_made w7 #[] 0 (Nat.le_refl _) (Nat.zero_le _) rfl, R7.below ba, ba.size⟩, fun w8 r8 c8 ho8 hg8 => ?_⟩
    have b8 : Below w7.heap.size w7 w8 := ba.grown hg8 ba.size (fun b e => by cases e; exact Nat.le_refl _)
    have bc : Below w8.heap.size w8 (w8.alloc (.cells #[.slice (some ⟨w1.heap.size, 0, none⟩) ny (ny + 1)] 26)) := (Below.refl _ _).alloc (Nat.le_refl _) _
    have bd := next b8 bc
    have hr8 := ownsRow_below ho8 bc
    refine ⟨⟨hr8, bd.size⟩, fun w9 r9 c9 ho9 hg9 => ?_⟩
    have b9 : Below w7.heap.size w7 w9 := bd.grown hg9 bd.size (fun b e => (hr8.lt b e).1)
    have hb9 := next hb7 b9
    have R9 := R7.below b9
    refine (owned_read (B := w.heap.size) (by omega) R9.cells.1 (ownsRow_mono ho9 hb7.size) (fun i hi => by simp [hi, sliV]) (D := da D) (fun i hi => (R9.own i hi).mono hb2.size) R9.apart (L7.below b9) hyl (by omega) hb1.size (fun i hi a ea => ?_) hb9.size).mono ?_
    · have := ((R9.own i hi).row.lt a.block (by rw [ea]; rfl)).1
      omega
    · rintro e w' ⟨rfl, k8⟩
      exact ⟨rfl, hb9.trans k8⟩)
  have hk60 : (0 + dm) * 24 ≤ 140737488355328 := by omega
  have hk61 : (dm + 1) * 24 ≤ 140737488355328 := by omega
  have hrr : (r == r) = true := by simp
  have hr1 : (RC == RC) = true := by simp
  have hr2 : (RN == RN) = true := by simp
  have hr3 : (RP == RP) = true := by simp
  clear L2 L3 Q2 Q3 B5 P1 P2 Hy HT HRB hk1 hk2 hk3 hk4 f1 f2 f3
  go_wp2_with (first
    | (go_at_call 19; with_reducible refine cS.mono ?_; rintro e w6 ⟨rfl, b6⟩; have cSR := HSR.out w6 b6; clear cS HSR)
    | (go_at_call 20; with_reducible refine cSR.mono ?_; rintro e w7 ⟨rfl, b7⟩; obtain ⟨⟨g1, g2, g3⟩, HM2⟩ := HM.out w7 (next b6 b7); have G1 := hid g1; have G2 := hid g2; have G3 := hid g3; have M2 := hid HM2; clear g1 g2 g3 HM2 HM cSR b6 b7)
    | (at_builtin; refine append_rows rfl (.tmp 52) (.tmp 53) rfl w7.heap.size _ 0 [] rfl G1.out dt dm dc _ rfl G2.out.cells.1 G2.out.cells.2.1 G2.out.cells.2.2.1 G2.out.cells.2.2.2 hk60 G3.out ?_))
  intro r8 c8 w8 ho8 hg8
  obtain ⟨⟨g4, g5⟩, HM3⟩ := M2.out w8 r8 c8 ho8 hg8
  have G4 := hid g4
  have G5 := hid g5
  have M3 := hid HM3
  clear ho8 hg8 G1 G2 G3 M2 g4 g5 HM3
  go_wp2_with (first
    | (at_builtin; refine append_rows rfl (.tmp 54) (.tmp 56) rfl w7.heap.size _ dm _ rfl G4.out (some ⟨w8.heap.size, 0, none⟩) 1 1 [.slice (some ⟨w1.heap.size, 0, none⟩) ny (ny + 1)] rfl rfl (one_cell _) (by intro e; cases e) ?v2 hk61 G5.out ?_))
  case v2 =>
    intro u hu
    simp at hu
    subst hu
    rfl
  intro r9 c9 w9 ho9 hg9
  have cO := M3.out w9 r9 c9 ho9 hg9
  clear ho9 hg9 M3 G4 G5
  go_wp2_with (first
    | (go_at_call 14; with_reducible refine cO.mono ?_; rintro e w10 ⟨rfl, hb10⟩; clear cO))
  go_ret
  exact ⟨by simp, hb10⟩
end Go.Proofs.YtfnnelkipdajiaaDoor
