/- StV · StF · RefStA: these texts, one behind another. -/
import Derived.Test.YtpbljjbhfhfmgaaGreatDoorMxStM
import Derived.Test.YtpbljjbhfhfmgaaGreatDoorMxSlotR
import Derived.Test.YtpbljjbhfhfmgaaGreatDoorMxRootR
import Derived.Test.YtpbljjbhfhfmgaaGreatDoorMxOff
import Derived.Test.YtpbljjbhfhfmgaaGreatDoorMxLent
import Derived.WalkKit
import Derived.LoopTactic
/- States in memory: by value, in a block of their own. -/
namespace Go.Proofs.YtpbljjbhfhfmgaaGreatDoor
set_option maxRecDepth 100000
open Go.RowKit
set_option linter.unusedVariables false
set_option linter.unusedSimpArgs false
set_option maxRecDepth 100000

/-- The slices of a state. -/
structure StV where
  so : Option Addr
  sn : Nat
  sc : Nat
  ro : Option Addr
  rn : Nat
  rc : Nat
  to : Option Addr
  tn : Nat
  tc : Nat
  A : Nat → Option Addr
  N : Nat → Nat
  C : Nat → Nat
/-- A state's nine cells. -/
def stC (v : StV) (x : Stt) : Array Value := #[.int .i64 x.shp.pg, .int .i64 x.shp.sl, .int .i64 x.shp.rt, .int .i64 x.shp.rm, .int .i64 x.md, .int .i64 x.bs, .slice v.so v.sn v.sc, .slice v.ro v.rn v.rc, .slice v.to v.tn v.tc]
/-- A state whose slices can be read. -/
structure Sta (w : World) (v : StV) (x : Stt) : Prop where
  s : Tb w v.so v.sn v.sc x.sl
  r : Rs w v.ro v.rn v.rc x.rt
  d : Rd w v.to v.tn v.tc v.A v.N v.C x.dt
  gh : ShG x.shp
  gm : Rg x.md
  gb : Rg x.bs
theorem Sta.below {w w' : World} {v : StV} {x : Stt} (h : Sta w v x) (hb : Below w.heap.size w w') : Sta w' v x := ⟨h.s.below hb, h.r.below hb, h.d.below hb, h.gh, h.gm, h.gb⟩
/-- A state in a block of its own. -/
def BxT (w : World) (b : Nat) (v : StV) (x : Stt) : Prop := w.heap[b]? = some (.cells (stC v x) 28 (0, 0))
theorem BxT.lt {w : World} {b : Nat} {v : StV} {x : Stt} (h : BxT w b v x) : b < w.heap.size := (Array.getElem?_eq_some_iff.1 h).1
theorem BxT.kept {w w' : World} {b : Nat} {v : StV} {x : Stt} (h : BxT w b v x) (hb : Below w.heap.size w w') : BxT w' b v x := (hb.block b h.lt).trans h
theorem BxT.off {F : Nat → Prop} {w w' : World} {b : Nat} {v : StV} {x : Stt} (h : BxT w b v x) (ho : Off F w w') (hn : ¬ F b) : BxT w' b v x := (ho.block b h.lt hn).trans h
theorem BxT.more {w : World} {b : Nat} {v : StV} {x : Stt} (h : BxT w b v x) (o : Obj) : BxT (w.alloc o) b v x := h.kept ((Below.refl _ _).alloc (Nat.le_refl _) _)
theorem BxT.drew {w : World} {b : Nat} {v : StV} {x : Stt} (h : BxT w b v x) : BxT w.drew b v x := h
structure CelT (w : World) (b : Nat) (v : StV) (x : Stt) : Prop where
  c0 : w.cell? ⟨b, 0, none⟩ = some (.int .i64 x.shp.pg)
  c1 : w.cell? ⟨b, 1, none⟩ = some (.int .i64 x.shp.sl)
  c2 : w.cell? ⟨b, 2, none⟩ = some (.int .i64 x.shp.rt)
  c3 : w.cell? ⟨b, 3, none⟩ = some (.int .i64 x.shp.rm)
  c4 : w.cell? ⟨b, 4, none⟩ = some (.int .i64 x.md)
  c5 : w.cell? ⟨b, 5, none⟩ = some (.int .i64 x.bs)
  c6 : w.cell? ⟨b, 6, none⟩ = some (.slice v.so v.sn v.sc)
  c7 : w.cell? ⟨b, 7, none⟩ = some (.slice v.ro v.rn v.rc)
  c8 : w.cell? ⟨b, 8, none⟩ = some (.slice v.to v.tn v.tc)
theorem BxT.cells {w : World} {b : Nat} {v : StV} {x : Stt} (h : BxT w b v x) : CelT w b v x := by
  unfold BxT at h
  refine ⟨?_, ?_, ?_, ?_, ?_, ?_, ?_, ?_, ?_⟩ <;> simp [World.cell?, h, stC]
theorem BxT.free {w : World} {b : Nat} {v : StV} {x : Stt} (h : BxT w b v x) (i : Nat) : w.frozen? ⟨b, i, none⟩ = false := frozen_of_row w b i _ 28 h
theorem bxT_new (w : World) (v : StV) (x : Stt) : BxT (w.alloc (.cells (stC v x) 28)) w.heap.size v x := heap_alloc_new w _
/-- The box that a call lays at first, and what it keeps. -/
theorem st_box (w : World) (v : StV) (x : Stt) : Below w.heap.size w (w.alloc (.cells (stC v x) 28)) := (Below.refl _ _).alloc (Nat.le_refl _) _
end Go.Proofs.YtpbljjbhfhfmgaaGreatDoor
/- state's closures on a slot, and state.find with each of them, by their contracts. -/
namespace Go.Proofs.YtpbljjbhfhfmgaaGreatDoor
set_option maxRecDepth 100000
open Go.RowKit
set_option linter.unusedVariables false
set_option linter.unusedSimpArgs false
set_option maxRecDepth 100000


theorem cl_two (g0 : Int) (lv tw : Bool) (p ln : Int) (w : World) :
    Calls Tryz.prog 26 #[.agg #[.int .i64 g0, .bool lv, .bool tw, .int .i64 p, .int .i64 ln]] w fun e w' => e = .returned (.bool (isTwo ⟨g0, lv, tw, p, ln⟩)) ∧ Below w.heap.size w w' := by
  have hb : Below w.heap.size w (w.alloc (.cells #[.int .i64 g0, .bool lv, .bool tw, .int .i64 p, .int .i64 ln] 55)) := (Below.refl _ _).alloc (Nat.le_refl _) _
  cases lv <;> cases tw
  all_goals
    go_enter Tryz.func26, Tryz.ntmps26
    go_wp2
    go_ret
    exact ⟨rfl, hb⟩
set_option maxHeartbeats 1000000 in
theorem find_two (ao : Option Addr) (n cap : Nat) (l : List Slt) (w : World) (h : Tb w ao n cap l) (hn : n ≤ 1000000) :
    Calls Tryz.prog 25 #[.slice ao n cap, .func (.func 26) #[] #[]] w fun e w' => ∃ bo m c, e = .returned (.slice bo m c) ∧ Own .i64 3 w.heap.size w' bo m c (fiL isTwo l) ∧ m ≤ n ∧ Below w.heap.size w w' := by
  have hl := h.len
  go_enter Tryz.func25, Tryz.ntmps25
  go_wp2
  go_loopw [5, 9] (fun s5 s9 wr => ∃ (k : Nat) (bo : Option Addr) (m c : Nat) (xs : List Int), k ≤ n ∧ s9 = .int .i64 k ∧ s5 = .slice bo m c ∧ Hid (Own .i64 3 w.heap.size wr bo m c xs) ∧ Hid (xs = fiN isTwo l k) ∧ m ≤ k ∧ Hid (Below w.heap.size w wr)) (fun _ s9 _ => n - (intOf s9).toNat)
  case atStart => exact ⟨0, none, 0, 0, [], Nat.zero_le _, rfl, rfl, hid (own_nil _ _ _ _), hid rfl, Nat.le_refl _, hid (Below.refl _ _)⟩
  case round =>
    obtain ⟨k, bo, m, c, xs, hk, rfl, rfl, HO, HX, hm, HB⟩ := hrel
    by_cases hlt : k < n
    · obtain ⟨b, off, rfl, _, _⟩ := h.here (by omega)
      have hs5 := h.at HB.out hlt
      have hki : (k : Int) < (n : Int) := by omega
      have HY : Hid (isTwo (sg l k) = true → fiN isTwo l (k + 1) = xs ++ [(k : Int)]) := fun e => by rw [fiN_yes e, HX.out]
      have HN : Hid (isTwo (sg l k) = false → fiN isTwo l (k + 1) = xs) := fun e => by rw [fiN_no e, HX.out]
      generalize sg l k = s at *
      obtain ⟨g0, lv, tw, p, ln⟩ := s
      obtain ⟨c0, c1, c2, c3, c4⟩ := hs5
      simp only at c0 c1 c2 c3 c4
      have cC := cl_two g0 lv tw p ln wr
      have hm8 : (m + 1) * 8 ≤ 140737488355328 := by omega
      clear h HX
      cases hp : isTwo ⟨g0, lv, tw, p, ln⟩ with
      | true =>
        rw [hp] at cC
        have HY2 := hid (HY.out hp)
        clear HY HN hp
        go_wp2_with (first
          | (go_at_call 26; with_reducible refine cC.mono ?_; rintro e w1 ⟨rfl, hb1⟩; have hbA := hb1.alloc hb1.size (.cells #[.int .i64 (k : Int)] 3); have HO1 := hid (HO.out.below hbA); have HS1 := hid (sl_int w1 w1.heap.size (k : Int) rfl); have HBA := hid (next HB.out hbA); have hsz := HBA.out.size; clear hb1 hbA)
          | (at_builtin; refine append_il rfl (.tmp 18) (.tmp 20) rfl w.heap.size _ m xs rfl HO1.out.row (some ⟨w1.heap.size, 0, none⟩) 1 1 [(k : Int)] rfl HS1.out hm8 hsz ?_; intro bo2 c2' w2 ho2 hg2 _; have HO2 := hid ho2; have HB2 := hid (HBA.out.grown hg2 hsz (fun j hj => (HO1.out.row.lt j hj).1)); clear ho2 hg2))
        go_roundw
        case rel => exact ⟨k + 1, bo2, m + 1, c2', xs ++ [(k : Int)], by omega, by go_num, rfl, HO2, hid HY2.out.symm, by omega, HB2⟩
        case measure => simp [intOf]; omega
      | false =>
        rw [hp] at cC
        have HN2 := hid (HN.out hp)
        clear HY HN hp
        go_wp2_with (first
          | (go_at_call 26; with_reducible refine cC.mono ?_; rintro e w1 ⟨rfl, hb1⟩; have HO1 := hid (HO.out.below hb1); have HB1 := hid (next HB.out hb1); clear hb1))
        go_roundw
        case rel => exact ⟨k + 1, bo, m, c, xs, by omega, by go_num, rfl, HO1, hid HN2.out.symm, by omega, HB1⟩
        case measure => simp [intOf]; omega
    · obtain rfl : k = n := by omega
      have HK : Hid (xs = fiL isTwo l) := hid (by rw [HX.out]; unfold fiL; rw [hl])
      have hki : ¬ ((k : Int) < (k : Int)) := by omega
      clear h HX
      go_wp2
      go_ret
      exact ⟨bo, m, c, rfl, by rw [← HK.out]; exact HO.out, hm, HB.out⟩

theorem cl_one (g0 : Int) (lv tw : Bool) (p ln : Int) (w : World) :
    Calls Tryz.prog 37 #[.agg #[.int .i64 g0, .bool lv, .bool tw, .int .i64 p, .int .i64 ln]] w fun e w' => e = .returned (.bool (isOne ⟨g0, lv, tw, p, ln⟩)) ∧ Below w.heap.size w w' := by
  have hb : Below w.heap.size w (w.alloc (.cells #[.int .i64 g0, .bool lv, .bool tw, .int .i64 p, .int .i64 ln] 55)) := (Below.refl _ _).alloc (Nat.le_refl _) _
  cases lv <;> cases tw
  all_goals
    go_enter Tryz.func37, Tryz.ntmps37
    go_wp2
    go_ret
    exact ⟨rfl, hb⟩
set_option maxHeartbeats 1000000 in
theorem find_one (ao : Option Addr) (n cap : Nat) (l : List Slt) (w : World) (h : Tb w ao n cap l) (hn : n ≤ 1000000) :
    Calls Tryz.prog 25 #[.slice ao n cap, .func (.func 37) #[] #[]] w fun e w' => ∃ bo m c, e = .returned (.slice bo m c) ∧ Own .i64 3 w.heap.size w' bo m c (fiL isOne l) ∧ m ≤ n ∧ Below w.heap.size w w' := by
  have hl := h.len
  go_enter Tryz.func25, Tryz.ntmps25
  go_wp2
  go_loopw [5, 9] (fun s5 s9 wr => ∃ (k : Nat) (bo : Option Addr) (m c : Nat) (xs : List Int), k ≤ n ∧ s9 = .int .i64 k ∧ s5 = .slice bo m c ∧ Hid (Own .i64 3 w.heap.size wr bo m c xs) ∧ Hid (xs = fiN isOne l k) ∧ m ≤ k ∧ Hid (Below w.heap.size w wr)) (fun _ s9 _ => n - (intOf s9).toNat)
  case atStart => exact ⟨0, none, 0, 0, [], Nat.zero_le _, rfl, rfl, hid (own_nil _ _ _ _), hid rfl, Nat.le_refl _, hid (Below.refl _ _)⟩
  case round =>
    obtain ⟨k, bo, m, c, xs, hk, rfl, rfl, HO, HX, hm, HB⟩ := hrel
    by_cases hlt : k < n
    · obtain ⟨b, off, rfl, _, _⟩ := h.here (by omega)
      have hs5 := h.at HB.out hlt
      have hki : (k : Int) < (n : Int) := by omega
      have HY : Hid (isOne (sg l k) = true → fiN isOne l (k + 1) = xs ++ [(k : Int)]) := fun e => by rw [fiN_yes e, HX.out]
      have HN : Hid (isOne (sg l k) = false → fiN isOne l (k + 1) = xs) := fun e => by rw [fiN_no e, HX.out]
      generalize sg l k = s at *
      obtain ⟨g0, lv, tw, p, ln⟩ := s
      obtain ⟨c0, c1, c2, c3, c4⟩ := hs5
      simp only at c0 c1 c2 c3 c4
      have cC := cl_one g0 lv tw p ln wr
      have hm8 : (m + 1) * 8 ≤ 140737488355328 := by omega
      clear h HX
      cases hp : isOne ⟨g0, lv, tw, p, ln⟩ with
      | true =>
        rw [hp] at cC
        have HY2 := hid (HY.out hp)
        clear HY HN hp
        go_wp2_with (first
          | (go_at_call 37; with_reducible refine cC.mono ?_; rintro e w1 ⟨rfl, hb1⟩; have hbA := hb1.alloc hb1.size (.cells #[.int .i64 (k : Int)] 3); have HO1 := hid (HO.out.below hbA); have HS1 := hid (sl_int w1 w1.heap.size (k : Int) rfl); have HBA := hid (next HB.out hbA); have hsz := HBA.out.size; clear hb1 hbA)
          | (at_builtin; refine append_il rfl (.tmp 18) (.tmp 20) rfl w.heap.size _ m xs rfl HO1.out.row (some ⟨w1.heap.size, 0, none⟩) 1 1 [(k : Int)] rfl HS1.out hm8 hsz ?_; intro bo2 c2' w2 ho2 hg2 _; have HO2 := hid ho2; have HB2 := hid (HBA.out.grown hg2 hsz (fun j hj => (HO1.out.row.lt j hj).1)); clear ho2 hg2))
        go_roundw
        case rel => exact ⟨k + 1, bo2, m + 1, c2', xs ++ [(k : Int)], by omega, by go_num, rfl, HO2, hid HY2.out.symm, by omega, HB2⟩
        case measure => simp [intOf]; omega
      | false =>
        rw [hp] at cC
        have HN2 := hid (HN.out hp)
        clear HY HN hp
        go_wp2_with (first
          | (go_at_call 37; with_reducible refine cC.mono ?_; rintro e w1 ⟨rfl, hb1⟩; have HO1 := hid (HO.out.below hb1); have HB1 := hid (next HB.out hb1); clear hb1))
        go_roundw
        case rel => exact ⟨k + 1, bo, m, c, xs, by omega, by go_num, rfl, HO1, hid HN2.out.symm, by omega, HB1⟩
        case measure => simp [intOf]; omega
    · obtain rfl : k = n := by omega
      have HK : Hid (xs = fiL isOne l) := hid (by rw [HX.out]; unfold fiL; rw [hl])
      have hki : ¬ ((k : Int) < (k : Int)) := by omega
      clear h HX
      go_wp2
      go_ret
      exact ⟨bo, m, c, rfl, by rw [← HK.out]; exact HO.out, hm, HB.out⟩

theorem cl_live (g0 : Int) (lv tw : Bool) (p ln : Int) (w : World) :
    Calls Tryz.prog 59 #[.agg #[.int .i64 g0, .bool lv, .bool tw, .int .i64 p, .int .i64 ln]] w fun e w' => e = .returned (.bool (Slt.live ⟨g0, lv, tw, p, ln⟩)) ∧ Below w.heap.size w w' := by
  have hb : Below w.heap.size w (w.alloc (.cells #[.int .i64 g0, .bool lv, .bool tw, .int .i64 p, .int .i64 ln] 55)) := (Below.refl _ _).alloc (Nat.le_refl _) _
  cases lv <;> cases tw
  all_goals
    go_enter Tryz.func59, Tryz.ntmps59
    go_wp2
    go_ret
    exact ⟨rfl, hb⟩
set_option maxHeartbeats 1000000 in
theorem find_live (ao : Option Addr) (n cap : Nat) (l : List Slt) (w : World) (h : Tb w ao n cap l) (hn : n ≤ 1000000) :
    Calls Tryz.prog 25 #[.slice ao n cap, .func (.func 59) #[] #[]] w fun e w' => ∃ bo m c, e = .returned (.slice bo m c) ∧ Own .i64 3 w.heap.size w' bo m c (fiL Slt.live l) ∧ m ≤ n ∧ Below w.heap.size w w' := by
  have hl := h.len
  go_enter Tryz.func25, Tryz.ntmps25
  go_wp2
  go_loopw [5, 9] (fun s5 s9 wr => ∃ (k : Nat) (bo : Option Addr) (m c : Nat) (xs : List Int), k ≤ n ∧ s9 = .int .i64 k ∧ s5 = .slice bo m c ∧ Hid (Own .i64 3 w.heap.size wr bo m c xs) ∧ Hid (xs = fiN Slt.live l k) ∧ m ≤ k ∧ Hid (Below w.heap.size w wr)) (fun _ s9 _ => n - (intOf s9).toNat)
  case atStart => exact ⟨0, none, 0, 0, [], Nat.zero_le _, rfl, rfl, hid (own_nil _ _ _ _), hid rfl, Nat.le_refl _, hid (Below.refl _ _)⟩
  case round =>
    obtain ⟨k, bo, m, c, xs, hk, rfl, rfl, HO, HX, hm, HB⟩ := hrel
    by_cases hlt : k < n
    · obtain ⟨b, off, rfl, _, _⟩ := h.here (by omega)
      have hs5 := h.at HB.out hlt
      have hki : (k : Int) < (n : Int) := by omega
      have HY : Hid (Slt.live (sg l k) = true → fiN Slt.live l (k + 1) = xs ++ [(k : Int)]) := fun e => by rw [fiN_yes e, HX.out]
      have HN : Hid (Slt.live (sg l k) = false → fiN Slt.live l (k + 1) = xs) := fun e => by rw [fiN_no e, HX.out]
      generalize sg l k = s at *
      obtain ⟨g0, lv, tw, p, ln⟩ := s
      obtain ⟨c0, c1, c2, c3, c4⟩ := hs5
      simp only at c0 c1 c2 c3 c4
      have cC := cl_live g0 lv tw p ln wr
      have hm8 : (m + 1) * 8 ≤ 140737488355328 := by omega
      clear h HX
      cases hp : Slt.live ⟨g0, lv, tw, p, ln⟩ with
      | true =>
        rw [hp] at cC
        have HY2 := hid (HY.out hp)
        clear HY HN hp
        go_wp2_with (first
          | (go_at_call 59; with_reducible refine cC.mono ?_; rintro e w1 ⟨rfl, hb1⟩; have hbA := hb1.alloc hb1.size (.cells #[.int .i64 (k : Int)] 3); have HO1 := hid (HO.out.below hbA); have HS1 := hid (sl_int w1 w1.heap.size (k : Int) rfl); have HBA := hid (next HB.out hbA); have hsz := HBA.out.size; clear hb1 hbA)
          | (at_builtin; refine append_il rfl (.tmp 18) (.tmp 20) rfl w.heap.size _ m xs rfl HO1.out.row (some ⟨w1.heap.size, 0, none⟩) 1 1 [(k : Int)] rfl HS1.out hm8 hsz ?_; intro bo2 c2' w2 ho2 hg2 _; have HO2 := hid ho2; have HB2 := hid (HBA.out.grown hg2 hsz (fun j hj => (HO1.out.row.lt j hj).1)); clear ho2 hg2))
        go_roundw
        case rel => exact ⟨k + 1, bo2, m + 1, c2', xs ++ [(k : Int)], by omega, by go_num, rfl, HO2, hid HY2.out.symm, by omega, HB2⟩
        case measure => simp [intOf]; omega
      | false =>
        rw [hp] at cC
        have HN2 := hid (HN.out hp)
        clear HY HN hp
        go_wp2_with (first
          | (go_at_call 59; with_reducible refine cC.mono ?_; rintro e w1 ⟨rfl, hb1⟩; have HO1 := hid (HO.out.below hb1); have HB1 := hid (next HB.out hb1); clear hb1))
        go_roundw
        case rel => exact ⟨k + 1, bo, m, c, xs, by omega, by go_num, rfl, HO1, hid HN2.out.symm, by omega, HB1⟩
        case measure => simp [intOf]; omega
    · obtain rfl : k = n := by omega
      have HK : Hid (xs = fiL Slt.live l) := hid (by rw [HX.out]; unfold fiL; rw [hl])
      have hki : ¬ ((k : Int) < (k : Int)) := by omega
      clear h HX
      go_wp2
      go_ret
      exact ⟨bo, m, c, rfl, by rw [← HK.out]; exact HO.out, hm, HB.out⟩
end Go.Proofs.YtpbljjbhfhfmgaaGreatDoor
/- joistref18.Live by its contract. -/
namespace Go.Proofs.YtpbljjbhfhfmgaaGreatDoor
set_option maxRecDepth 100000
open Go.RowKit
set_option linter.unusedVariables false
set_option linter.unusedSimpArgs false
set_option maxRecDepth 100000

theorem rlive_any (v : StV) (x : Stt) (w : World) (h : Sta w v x) (hn : v.sn ≤ 1000000) :
    Calls Tryz.prog 22 #[.agg (stC v x)] w fun e w' => e = .returned (.int .i64 (liL x.sl : Nat)) ∧ Below w.heap.size w w' := by
  have hb0 := st_box w v x
  have hB := bxT_new w v x
  have hs := h.s.below hb0
  have hl := h.s.len
  obtain ⟨shp, md, bs, sl, rt, dt⟩ := x
  obtain ⟨so, sn, sc, ro, rn, rc, to, tn, tc, A, N, C⟩ := v
  simp only [stC] at *
  go_enter Tryz.func22, Tryz.ntmps22
  go_wp2
  generalize w.alloc (.cells #[.int .i64 shp.pg, .int .i64 shp.sl, .int .i64 shp.rt, .int .i64 shp.rm, .int .i64 md, .int .i64 bs, .slice so sn sc, .slice ro rn rc, .slice to tn tc] 28) = W0 at *
  go_loopw [3, 4] (fun s3 s4 wr => ∃ k : Nat, k ≤ sn ∧ s4 = .int .i64 k ∧ s3 = .int .i64 (liN sl k : Nat) ∧ W0 = wr) (fun _ s4 _ => sn - (intOf s4).toNat)
  case atStart => exact ⟨0, Nat.zero_le _, rfl, rfl, rfl⟩
  case round =>
    obtain ⟨k, hk, rfl, rfl, rfl⟩ := hrel
    have c6 := hB.cells.c6
    simp only at c6
    have hle := liN_le sl k
    by_cases hlt : k < sn
    · obtain ⟨b, off, rfl, _, hc⟩ := hs.here (by omega)
      have c1 := (hc k hlt).c1
      have hki : (k : Int) < (sn : Int) := by omega
      have hlen : sl.length = sn := hl
      cases hv : (sg sl k).live with
      | true =>
        have HK : Hid (liN sl (k + 1) = liN sl k + 1) := hid (by simp [liN, hv])
        rw [hv] at c1
        clear hs hc hB h hb0 hv
        generalize liN sl k = q at *
        go_wp2
        go_roundw
        case rel => exact ⟨k + 1, by omega, by go_num, by rw [HK.out]; go_num, trivial⟩
        case measure => simp [intOf]; omega
      | false =>
        have HK : Hid (liN sl (k + 1) = liN sl k) := hid (by simp [liN, hv])
        rw [hv] at c1
        clear hs hc hB h hb0 hv
        generalize liN sl k = q at *
        go_wp2
        go_roundw
        case rel => exact ⟨k + 1, by omega, by go_num, by rw [HK.out], trivial⟩
        case measure => simp [intOf]; omega
    · obtain rfl : k = sn := by omega
      have hki : ¬ ((k : Int) < (k : Int)) := by omega
      have HK : Hid (liL sl = liN sl k) := hid (by unfold liL; rw [hl])
      clear hs hB h
      go_wp2
      go_ret
      exact ⟨by rw [HK.out]; rfl, hb0⟩
end Go.Proofs.YtpbljjbhfhfmgaaGreatDoor
