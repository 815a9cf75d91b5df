/- roots.Right, check, have, Get, Set and Drop by their contracts. -/
import Derived.Test.YtmefepjjlhphnaaDoorRootB
import Derived.Laws.ResultCell
namespace Go.Proofs.YtmefepjjlhphnaaDoor
set_option maxRecDepth 100000
open Go.RowKit
set_option linter.unusedVariables false
set_option linter.unusedSimpArgs false
set_option maxRecDepth 100000

theorem Rs.short {w : World} {ao : Option Addr} {n cap : Nat} {l : List Rt} (h : Rs w ao n cap l) (m : Nat) (hm : m ≤ n) : Rs w ao m cap (l.take m) := by
  have hl := h.len
  have hr := h.room
  refine ⟨by rw [List.length_take]; omega, by omega, h.void, fun hp => ?_, fun s hs => h.rg s (List.mem_of_mem_take hs)⟩
  obtain ⟨b, off, e, hlt, hc⟩ := h.here (by omega)
  refine ⟨b, off, e, hlt, fun i hi => ?_⟩
  rw [ra_take hi]
  exact hc i (by omega)
set_option maxHeartbeats 1000000 in
theorem rightR_rs (ao : Option Addr) (n cap : Nat) (l : List Rt) (w : World) (h : Rs w ao n cap l) (hn : n ≤ 9223372036854775807) :
    Calls Tryd.prog 15 #[.slice ao n cap] w fun e w' => e = .returned (.bool (rightRB l)) ∧ Below w.heap.size w w' := by
  have hl := h.len
  by_cases hs : SizR (n : Int)
  · have hsb := sizRB_t hs
    go_enter Tryd.func15, Tryd.ntmps15
    go_wp2_with (go_at_call 20; with_reducible refine (sizedR_any _ _).mono ?_; rintro e w' ⟨rfl, rfl⟩; rw [hsb])
    go_loopw [13] (fun t wr => ∃ k : Nat, k ≤ n ∧ t = .int .i64 k ∧ Hid (∀ j, j < k → OkAt l j) ∧ Below w.heap.size w wr) (fun t _ => n - (intOf t).toNat)
    case atStart => exact ⟨0, Nat.zero_le _, rfl, hid (fun i hi => by omega), Below.refl _ _⟩
    case round =>
      obtain ⟨k, hk, rfl, HK, hb⟩ := hrel
      by_cases hlt : k < n
      · obtain ⟨b, off, rfl, _, _⟩ := h.here (by omega)
        obtain ⟨c0, c1, c2⟩ := h.at hb hlt
        have hroom := h.room
        have hki : (k : Int) < (n : Int) := by omega
        have hkc : k ≤ cap := by omega
        have HT : Hid (OkAt l k → ∀ i, i < k + 1 → OkAt l i) := fun hm i hi => by
          by_cases e : i = k
          · rw [e]; exact hm
          · exact HK.out i (by omega)
        have HF : Hid (¬ OkAt l k → false = rightRB l) := fun hm => (rightRB_f (fun hr => hm (hr.ok (by omega)))).symm
        have hbA : Below w.heap.size w (wr.alloc (ra l k).obj) := hb.alloc hb.size _
        have cM := fun w => may_rt (ra l k) w (h.rgs hlt)
        have h3 := r3_new wr (ra l k)
        have cN : ∀ w2, Below w.heap.size w w2 → Calls Tryd.prog 30 #[.slice (some ⟨b, off, none⟩) k cap, .string (ra l k).nm] w2 fun e w' => e = .returned (.tuple #[.int .i64 (plN (l.take k) (ra l k).nm : Nat), .bool (plB (l.take k) (ra l k).nm)]) ∧ Below w2.heap.size w2 w' := fun w2 hb2 => named_rs _ k cap (l.take k) _ w2 ((h.below hb2).short k (by omega)) (by omega)
        have HO : Hid (OkAt l k ↔ MayR (ra l k) ∧ ((ra l k).nm = emp ∨ plB (l.take k) (ra l k).nm = false)) := hid Iff.rfl
        generalize plB (l.take k) (ra l k).nm = pb at *
        generalize plN (l.take k) (ra l k).nm = pn at *
        generalize ra l k = r at *
        obtain ⟨nm, ix, gn⟩ := r
        simp only [Rt.obj] at c0 c1 c2 cM hbA h3 cN HO
        clear HK h hsb hs
        by_cases hm : MayR ⟨nm, ix, gn⟩
        · rw [mayRB_t hm] at cM
          go_wp2_with (first
            | (go_at_call 29; with_reducible refine (cM _).mono ?_; rintro e w3 ⟨rfl, hb3⟩))
          obtain ⟨d0, d1, d2⟩ := h3.below hb3
          have h33 := hid (h3.below hb3)
          have hb3' := next hbA hb3
          have cN' := cN _ hb3'.drew
          have hlt3 : wr.heap.size < w3.heap.size := World.block_lt_of_cell? w3 _ d0
          clear c0 c1 c2 cM h3 cN hb3
          go_region_held3 (fun w' => w'.cell? ⟨wr.heap.size, 0, none⟩ = some (.string nm)) (go_keep) (first
            | (go_at_call 30; with_reducible refine cN'.mono ?_; rintro e w4 ⟨rfl, hb4⟩; obtain ⟨f0, f1, f2⟩ := h33.out.below (next (Below.refl _ _).drew hb4)))
          have hb4' := next hb3'.drew hb4
          cases pb with
          | false =>
            have HT' := hid (HT.out (HO.out.2 ⟨hm, Or.inr rfl⟩))
            clear HT HF HO hm
            go_wp2
            go_roundw
            case rel => exact ⟨k + 1, by omega, by go_num, HT', hb4'⟩
            case measure => simp [intOf]; omega
          | true =>
            by_cases he : nm = emp
            · have HT' := hid (HT.out (HO.out.2 ⟨hm, Or.inl he⟩))
              have hq := emp_e he
              clear HT HF HO hm he
              go_wp2
              go_roundw
              case rel => exact ⟨k + 1, by omega, by go_num, HT', hb4'⟩
              case measure => simp [intOf]; omega
            · have HF' := hid (HF.out (fun e => by rcases (HO.out.1 e).2 with h1 | h1; exact he h1; cases h1))
              have hq := emp_n he
              have hq2 := emp_l he
              clear HT HF HO hm he
              go_wp2
              go_ret
              exact ⟨ret_bool HF'.out, hb4'⟩
        · rw [mayRB_f hm] at cM
          go_wp2_with (first
            | (go_at_call 29; with_reducible refine (cM _).mono ?_; rintro e w3 ⟨rfl, hb3⟩))
          go_ret
          exact ⟨ret_bool (HF.out (fun e => hm (HO.out.1 e).1)), next hbA hb3⟩
      · obtain rfl : k = n := by omega
        have HR : Hid (rightRB l = true) := hid (rightRB_t (rightR_of (by rw [hl]; exact hs) (fun j hj => HK.out j (by omega))))
        go_wp2
        go_ret
        exact ⟨ret_bool HR.out.symm, hb⟩
  · have hsb := sizRB_f hs
    have hr : rightRB l = false := rightRB_f (fun hr => hs (by have := hr.siz; rwa [hl] at this))
    rw [hr]
    go_enter Tryd.func15, Tryd.ntmps15
    go_wp2_with (go_at_call 20; with_reducible refine (sizedR_any _ _).mono ?_; rintro e w' ⟨rfl, rfl⟩; rw [hsb])
    go_ret
    exact ⟨rfl, Below.refl _ _⟩
theorem check_rs (ao : Option Addr) (n cap : Nat) (l : List Rt) (x : ByteArray) (w : World) (h : Rs w ao n cap l) (hn : n ≤ 9223372036854775807) (hx : x.size ≤ 9223372036854775807) :
    Calls Tryd.prog 31 #[.slice ao n cap, .string x] w fun e w' => e = .returned (.int .i64 (ckE l x)) ∧ Below w.heap.size w w' := by
  have cR := rightR_rs ao n cap l w h hn
  have cN := nright_any x
  clear h
  by_cases hr : RightR l
  · rw [rightRB_t hr] at cR
    cases hx2 : nameB x.data.toList with
    | true =>
      rw [ck_ok hr hx2]
      rw [hx2] at cN
      clear hr
      go_enter Tryd.func31, Tryd.ntmps31
      go_wp2_with (first
        | (go_at_call 15; with_reducible refine cR.mono ?_; rintro e w1 ⟨rfl, hb1⟩)
        | (go_at_call 45; with_reducible refine (cN _ hx).mono ?_; rintro e w2 ⟨rfl, hb2⟩))
      go_ret
      exact ⟨rfl, next hb1 hb2⟩
    | false =>
      rw [ck_form hr hx2]
      rw [hx2] at cN
      clear hr
      go_enter Tryd.func31, Tryd.ntmps31
      go_wp2_with (first
        | (go_at_call 15; with_reducible refine cR.mono ?_; rintro e w1 ⟨rfl, hb1⟩)
        | (go_at_call 45; with_reducible refine (cN _ hx).mono ?_; rintro e w2 ⟨rfl, hb2⟩))
      go_ret
      exact ⟨rfl, next hb1 hb2⟩
  · rw [rightRB_f hr] at cR
    rw [ck_arg hr]
    clear hr
    go_enter Tryd.func31, Tryd.ntmps31
    go_wp2_with (first
      | (go_at_call 15; with_reducible refine cR.mono ?_; rintro e w1 ⟨rfl, hb1⟩))
    go_ret
    exact ⟨rfl, hb1⟩
theorem have_rs (ao : Option Addr) (n cap : Nat) (l : List Rt) (x : ByteArray) (w : World) (h : Rs w ao n cap l) (hn : n ≤ 9223372036854775807) (hx : x.size ≤ 9223372036854775807) :
    Calls Tryd.prog 34 #[.slice ao n cap, .string x] w fun e w' => e = .returned (.tuple #[.int .i64 (hvN l x : Nat), .int .i64 (hvE l x)]) ∧ Below w.heap.size w w' := by
  have cC := check_rs ao n cap l x w h hn hx
  have cN : ∀ w2, Below w.heap.size w w2 → Calls Tryd.prog 30 #[.slice ao n cap, .string x] w2 fun e w' => e = .returned (.tuple #[.int .i64 (plN l x : Nat), .bool (plB l x)]) ∧ Below w2.heap.size w2 w' := fun w2 hb2 => named_rs _ n cap l _ w2 (h.below hb2) hn
  clear h
  by_cases hc : ckE l x = 0
  · obtain ⟨hr, hx2⟩ := ck_zero hc
    rw [hc] at cC
    cases hp : plB l x with
    | true =>
      obtain ⟨e1, e2⟩ := hv_t ⟨hr, hx2, hp⟩
      rw [e1, e2]
      rw [hp] at cN
      generalize plN l x = k at *
      clear e1 e2 hr hx2 hp hc
      go_enter Tryd.func34, Tryd.ntmps34
      go_wp2_with (first
        | (go_at_call 31; with_reducible refine cC.mono ?_; rintro e w1 ⟨rfl, hb1⟩)
        | (go_at_call 30; with_reducible refine (cN _ hb1).mono ?_; rintro e w2 ⟨rfl, hb2⟩))
      go_ret2
      exact ⟨rfl, next hb1 hb2⟩
    | false =>
      obtain ⟨e1, e2, _⟩ := hv_name hr hx2 hp
      rw [e1, e2]
      rw [hp] at cN
      clear e1 e2 hr hx2 hp hc
      go_enter Tryd.func34, Tryd.ntmps34
      go_wp2_with (first
        | (go_at_call 31; with_reducible refine cC.mono ?_; rintro e w1 ⟨rfl, hb1⟩)
        | (go_at_call 30; with_reducible refine (cN _ hb1).mono ?_; rintro e w2 ⟨rfl, hb2⟩))
      go_ret2
      exact ⟨rfl, next hb1 hb2⟩
  · obtain ⟨e1, e2, _⟩ := hv_ck hc
    rw [e1, e2]
    generalize ckE l x = q at *
    have hq : (q != 0) = true := by simpa using hc
    clear e1 e2
    go_enter Tryd.func34, Tryd.ntmps34
    go_wp2_with (first
      | (go_at_call 31; with_reducible refine cC.mono ?_; rintro e w1 ⟨rfl, hb1⟩))
    go_ret2
    exact ⟨rfl, hb1⟩
/-- A handle in a block of its own. -/
def BxR (w : World) (b : Nat) (I G : Int) : Prop := w.heap[b]? = some (.cells #[.int .i64 I, .int .i64 G] 41 (0, 0))
theorem BxR.kept {w w' : World} {b : Nat} {I G : Int} (h : BxR w b I G) (hb : Below w.heap.size w w') : BxR w' b I G := (hb.block b (Array.getElem?_eq_some_iff.1 h).1).trans h
theorem BxR.cells {w : World} {b : Nat} {I G : Int} (h : BxR w b I G) : w.cell? ⟨b, 0, none⟩ = some (.int .i64 I) ∧ w.cell? ⟨b, 1, none⟩ = some (.int .i64 G) ∧ w.frozen? ⟨b, 0, none⟩ = false ∧ w.frozen? ⟨b, 1, none⟩ = false := by
  refine ⟨?_, ?_, frozen_of_row w b 0 _ 41 h, frozen_of_row w b 1 _ 41 h⟩
  · rw [cell_of_row w b 0 _ 41 (0, 0) h]; rfl
  · rw [cell_of_row w b 1 _ 41 (0, 0) h]; rfl
theorem bxR_new (w : World) (I G : Int) : BxR (w.alloc (.cells #[.int .i64 I, .int .i64 G] 41)) w.heap.size I G := heap_alloc_new w _
theorem BxR.more {w : World} {b : Nat} {I G : Int} (h : BxR w b I G) (o : Obj) : BxR (w.alloc o) b I G := h.kept ((Below.refl _ _).alloc (Nat.le_refl _) _)
theorem get_rs (ao : Option Addr) (n cap : Nat) (l : List Rt) (x : ByteArray) (w : World) (h : Rs w ao n cap l) (hn : n ≤ 9223372036854775807) (hx : x.size ≤ 9223372036854775807) :
    Calls Tryd.prog 18 #[.slice ao n cap, .string x] w fun e w' => e = .returned (.tuple #[.agg #[.int .i64 (gtI l x), .int .i64 (gtG l x)], .int .i64 (hvE l x)]) ∧ Below w.heap.size w w' := by
  have hl := h.len
  have hbA : Below w.heap.size w (w.alloc (.cells #[.int .i64 0, .int .i64 0] 41)) := (Below.refl _ w).alloc (Nat.le_refl _) _
  have cC := have_rs ao n cap l x _ (h.below hbA) hn hx
  have hX := bxR_new w 0 0
  by_cases hv : HvOk l x
  · obtain ⟨e1, e2⟩ := hv_t hv
    obtain ⟨g1, g2⟩ := gt_t hv
    have hk := (plO_spec (plB_ex hv.2.2)).1
    rw [e1, e2] at cC
    rw [e1, g1, g2]
    obtain ⟨b, off, rfl, hbl, _⟩ := h.here (by omega)
    have Hat : Hid (∀ wr, Below w.heap.size w wr → R3 wr b (off + plN l x * 3) (ra l (plN l x))) := fun wr hb => h.at hb (by omega)
    generalize plN l x = k at *
    have hki : (k : Int) < (n : Int) := by omega
    generalize ra l k = r at *
    obtain ⟨nm, ix, gn⟩ := r
    clear e1 e2 g1 g2 hv h
    go_enter Tryd.func18, Tryd.ntmps18
    go_wp2_with (first
      | (go_at_call 34; with_reducible refine cC.mono ?_; rintro e w1 ⟨rfl, hb1⟩; obtain ⟨x0, x1, x2, x3⟩ := (hX.kept hb1).cells; obtain ⟨c0, c1, c2⟩ := Hat.out w1 (next hbA hb1)))
    refine bodyPost_ret (v := .tuple #[.agg #[.int .i64 ix, .int .i64 gn], .int .i64 0]) (by simp [results, Tryd.results18, go_sem, x0, x1]) rfl ⟨rfl, ?_⟩
    exact ((next hbA hb1).setCell (by simp) _).setCell (by simp) _
  · obtain ⟨g1, g2⟩ := gt_f hv
    rw [g1, g2]
    have hne : hvE l x ≠ 0 := fun e => hv (hvE_zero e)
    generalize hvE l x = q at *
    generalize hvN l x = k at *
    have hq : (q != 0) = true := by simpa using hne
    clear g1 g2 hv h
    go_enter Tryd.func18, Tryd.ntmps18
    go_wp2_with (first
      | (go_at_call 34; with_reducible refine cC.mono ?_; rintro e w1 ⟨rfl, hb1⟩; obtain ⟨x0, x1, x2, x3⟩ := (hX.kept hb1).cells))
    refine bodyPost_ret (v := .tuple #[.agg #[.int .i64 0, .int .i64 0], .int .i64 q]) (by simp [results, Tryd.results18, go_sem, x0, x1]) rfl ⟨rfl, ?_⟩
    exact ((next hbA hb1).setCell (by simp) _).setCell (by simp) _
set_option maxHeartbeats 1000000 in
theorem set_rs (ao : Option Addr) (n cap : Nat) (l : List Rt) (x : ByteArray) (I G : Int) (w : World) (h : Rs w ao n cap l) (hn : n ≤ 9223372036854775807) (hx : x.size ≤ 9223372036854775807) :
    Calls Tryd.prog 17 #[.slice ao n cap, .string x, .agg #[.int .i64 I, .int .i64 G]] w fun e w' => ∃ bo m c, e = .returned (.tuple #[.slice bo m c, .int .i64 (stE l x I G)]) ∧ OwR w.heap.size w' bo m c (stL l x I G) ∧ Below w.heap.size w w' := by
  have hl := h.len
  have hbA : Below w.heap.size w (w.alloc (.cells #[.int .i64 I, .int .i64 G] 41)) := (Below.refl _ w).alloc (Nat.le_refl _) _
  have hX := bxR_new w I G
  have cC := check_rs ao n cap l x _ (h.below hbA) hn (by omega)
  have cH := hRight_any I G
  have cN : ∀ y w2, Below w.heap.size w w2 → Calls Tryd.prog 30 #[.slice ao n cap, .string y] w2 fun e w' => e = .returned (.tuple #[.int .i64 (plN l y : Nat), .bool (plB l y)]) ∧ Below w2.heap.size w2 w' := fun y w2 hb2 => named_rs _ n cap l _ w2 (h.below hb2) hn
  by_cases hc : ckE l x = 0
  · obtain ⟨hr, hx2⟩ := ck_zero hc
    have hlen := hr.len
    rw [hc] at cC
    by_cases hh : RightH I G
    · rw [rightHB_t hh] at cH
      obtain ⟨b, off, rfl, hbl, _⟩ := h.here (by omega)
      have cW : ∀ k wr, k < n → Below w.heap.size w wr → Calls Tryd.prog 33 #[.slice (some ⟨b, off, none⟩) n cap, .int .i64 (k : Nat), .agg #[.string x, .int .i64 I, .int .i64 G]] wr fun e w' => ∃ bo c, e = .returned (.slice bo n c) ∧ OwR wr.heap.size w' bo n c (l.set k ⟨x, I, G⟩) ∧ Below wr.heap.size wr w' := fun k wr hk hb => withR_rs b off n cap k l ⟨x, I, G⟩ wr (h.below hb) hk (by omega) hx (fun i hi => set16 hr (Or.inr ⟨hx2, hh⟩) i (by omega))
      have cX := cN x
      have cE := cN ⟨#[]⟩
      cases hp : plO l x with
      | some k =>
        have hst : stO l x = some k := by unfold stO; rw [(pl_t hp).2, if_pos rfl, hp]
        obtain ⟨e1, e2, _⟩ := st_t hr hx2 hh hst
        have hk := (plO_spec hp).1
        rw [e1, e2]
        rw [(pl_t hp).1, (pl_t hp).2] at cX
        have cW' := fun wr => cW k wr (by omega)
        clear e1 e2 hst hp hr hx2 h cN cE hc cW
        go_enter Tryd.func17, Tryd.ntmps17
        go_wp2_with (first
          | (go_at_call 31; with_reducible refine cC.mono ?_; rintro e w1 ⟨rfl, hb1⟩; have b1 := next hbA hb1; have hX1 := hX.kept hb1; obtain ⟨x0, x1, x2, x3⟩ := hX1.cells)
          | (go_at_call 32; with_reducible refine (cH _).mono ?_; rintro e w2 ⟨rfl, hb2⟩; have b2 := next b1 hb2; have hX2 := hX1.kept hb2)
          | (go_at_call 30; with_reducible refine (cX _ b2).mono ?_; rintro e w3 ⟨rfl, hb3⟩; have b3 := next b2 hb3; obtain ⟨y0, y1, y2, y3⟩ := (hX2.kept hb3).cells)
          | (go_at_call 33; with_reducible refine (cW' _ b3).mono ?_; rintro e w4 ⟨bo, c, rfl, ho4, hb4⟩))
        go_ret2
        exact ⟨bo, n, c, rfl, ho4.mono b3.size, next b3 hb4⟩
      | none =>
        rw [(pl_f hp).1, (pl_f hp).2] at cX
        cases hq : plO l emp with
        | some k =>
          have hst : stO l x = some k := by unfold stO; rw [(pl_f hp).2]; exact hq
          obtain ⟨e1, e2, _⟩ := st_t hr hx2 hh hst
          have hk := (plO_spec hq).1
          rw [e1, e2]
          rw [(pl_t hq).1, (pl_t hq).2] at cE
          have cW' := fun wr => cW k wr (by omega)
          clear e1 e2 hst hp hr hx2 h cN hq hc cW
          go_enter Tryd.func17, Tryd.ntmps17
          go_wp2_with (first
            | (go_at_call 31; with_reducible refine cC.mono ?_; rintro e w1 ⟨rfl, hb1⟩; have b1 := next hbA hb1; have hX1 := hX.kept hb1; obtain ⟨x0, x1, x2, x3⟩ := hX1.cells)
            | (go_at_call 32; with_reducible refine (cH _).mono ?_; rintro e w2 ⟨rfl, hb2⟩; have b2 := next b1 hb2; have hX2 := hX1.kept hb2)
            | (go_at_call 30; with_reducible refine (cX _ b2).mono ?_; rintro e w3 ⟨rfl, hb3⟩; have b3 := next b2 hb3; have hX3 := hX2.kept hb3)
            | (go_at_call 30; with_reducible refine (cE _ b3).mono ?_; rintro e w4 ⟨rfl, hb4⟩; have b4 := next b3 hb4; obtain ⟨y0, y1, y2, y3⟩ := (hX3.kept hb4).cells)
            | (go_at_call 33; with_reducible refine (cW' _ b4).mono ?_; rintro e w5 ⟨bo, c, rfl, ho5, hb5⟩))
          go_ret2
          exact ⟨bo, n, c, rfl, ho5.mono b4.size, next b4 hb5⟩
        | none =>
          have hst : stO l x = none := by unfold stO; rw [(pl_f hp).2]; exact hq
          obtain ⟨e1, e2, _⟩ := st_full (I := I) (G := G) hr hx2 hh hst
          rw [e1, e2]
          rw [(pl_f hq).1, (pl_f hq).2] at cE
          clear e1 e2 hst hp hr hx2 h cN hq hc cW
          go_enter Tryd.func17, Tryd.ntmps17
          go_wp2_with (first
            | (go_at_call 31; with_reducible refine cC.mono ?_; rintro e w1 ⟨rfl, hb1⟩; have b1 := next hbA hb1; have hX1 := hX.kept hb1; obtain ⟨x0, x1, x2, x3⟩ := hX1.cells)
            | (go_at_call 32; with_reducible refine (cH _).mono ?_; rintro e w2 ⟨rfl, hb2⟩; have b2 := next b1 hb2)
            | (go_at_call 30; with_reducible refine (cX _ b2).mono ?_; rintro e w3 ⟨rfl, hb3⟩; have b3 := next b2 hb3)
            | (go_at_call 30; with_reducible refine (cE _ b3).mono ?_; rintro e w4 ⟨rfl, hb4⟩; have b4 := next b3 hb4))
          go_ret2
          exact ⟨none, 0, 0, rfl, owR_nil _ _, b4⟩
    · rw [rightHB_f hh] at cH
      obtain ⟨e1, e2, _⟩ := st_arg hr hx2 hh
      rw [e1, e2]
      clear e1 e2 hr hx2 h cN hc
      go_enter Tryd.func17, Tryd.ntmps17
      go_wp2_with (first
        | (go_at_call 31; with_reducible refine cC.mono ?_; rintro e w1 ⟨rfl, hb1⟩; have b1 := next hbA hb1; have hX1 := hX.kept hb1; obtain ⟨x0, x1, x2, x3⟩ := hX1.cells)
        | (go_at_call 32; with_reducible refine (cH _).mono ?_; rintro e w2 ⟨rfl, hb2⟩; have b2 := next b1 hb2))
      go_ret2
      exact ⟨none, 0, 0, rfl, owR_nil _ _, b2⟩
  · obtain ⟨e1, e2, _⟩ := st_ck (I := I) (G := G) hc
    rw [e1, e2]
    generalize ckE l x = q at *
    have hq : (q != 0) = true := by simpa using hc
    clear e1 e2 h cN
    go_enter Tryd.func17, Tryd.ntmps17
    go_wp2_with (first
      | (go_at_call 31; with_reducible refine cC.mono ?_; rintro e w1 ⟨rfl, hb1⟩; have b1 := next hbA hb1))
    go_ret2
    exact ⟨none, 0, 0, rfl, owR_nil _ _, b1⟩
end Go.Proofs.YtmefepjjlhphnaaDoor
