/- table.Take by its contract. -/
import Derived.Test.YtijfiaggneeibaaTabE
import Derived.Deep.RegionWith
import Derived.Deep.RegionHeld3
namespace Go.Proofs.Ytijfiaggneeibaa
set_option maxRecDepth 100000
open Go.RowKit
set_option linter.unusedVariables false
set_option linter.unusedSimpArgs false
set_option maxRecDepth 100000

/-- A handle in a block of its own. -/
def Bx (w : World) (b : Nat) (I G : Int) : Prop := w.heap[b]? = some (.cells #[.int .i64 I, .int .i64 G] 24 (0, 0))
theorem Bx.kept {w w' : World} {b : Nat} {I G : Int} (h : Bx w b I G) (hb : Below w.heap.size w w') : Bx w' b I G := (hb.block b (Array.getElem?_eq_some_iff.1 h).1).trans h
theorem Bx.cells {w : World} {b : Nat} {I G : Int} (h : Bx w b I G) : w.cell? ⟨b, 0, none⟩ = some (.int .i64 I) ∧ w.cell? ⟨b, 1, none⟩ = some (.int .i64 G) ∧ w.frozen? ⟨b, 0, none⟩ = false ∧ w.frozen? ⟨b, 1, none⟩ = false := by
  refine ⟨?_, ?_, frozen_of_row w b 0 _ 24 h, frozen_of_row w b 1 _ 24 h⟩
  · rw [cell_of_row w b 0 _ 24 (0, 0) h]; rfl
  · rw [cell_of_row w b 1 _ 24 (0, 0) h]; rfl
theorem bx_new (w : World) (I G : Int) : Bx (w.alloc (.cells #[.int .i64 I, .int .i64 G] 24)) w.heap.size I G := heap_alloc_new w _
/-- The slot and the handle with which a call begins. -/
def tkW (w : World) (s : Slt) : World := (w.alloc s.obj).alloc (.cells #[.int .i64 0, .int .i64 0] 24)
theorem tkW_below (w : World) (s : Slt) : Below w.heap.size w (tkW w s) := ((Below.refl _ w).alloc (Nat.le_refl _) _).alloc (by simp) _
theorem tkW_s5 (w : World) (s : Slt) : S5 (tkW w s) w.heap.size 0 s := (s5_new w s).below ((Below.refl _ _).alloc (Nat.le_refl _) _)
theorem tkW_bx (w : World) (s : Slt) : Bx (tkW w s) (w.heap.size + 1) 0 0 := by
  have e := bx_new (w.alloc s.obj) 0 0
  rwa [show (w.alloc s.obj).heap.size = w.heap.size + 1 by simp] at e
theorem take_bad (ao : Option Addr) (n cap : Nat) (l : List Slt) (s : Slt) (w : World) (h : Tb w ao n cap l) (hcap : cap ≤ 9223372036854775807) (hr : ¬ RightT l) :
    Calls Try.prog 22 #[.slice ao n cap, .agg #[.int .i64 s.gen, .bool s.live, .bool s.two, .int .i64 s.pos, .int .i64 s.len]] w fun e w' => e = .returned (.tuple #[.slice none 0 0, .agg #[.int .i64 0, .int .i64 0], .int .i64 1]) ∧ Below w.heap.size w w' := by
  have hroom := h.room
  have hn : n ≤ 9223372036854775807 := by omega
  have hbW := tkW_below w s
  have cR := right_tb ao n cap l (tkW w s) (h.below hbW) hn
  rw [rightB_f hr] at cR
  have hx := tkW_bx w s
  clear h hr
  go_enter Try.func22, Try.ntmps22
  go_wp2_with (first
    | (go_at_call 17; refine cR.mono ?_; rintro e w1 ⟨rfl, hb1⟩; obtain ⟨c0, c1, f0, f1⟩ := (hx.kept hb1).cells))
  refine bodyPost_ret (v := .tuple #[.slice none 0 0, .agg #[.int .i64 0, .int .i64 0], .int .i64 1]) (by simp [results, Try.results22, go_sem, c0, c1]) rfl ⟨rfl, ?_⟩
  exact ((hbW.trans (hb1.mono hbW.size)).setCell (by simp) _).setCell (by simp) _
theorem take_none (ao : Option Addr) (n cap : Nat) (l : List Slt) (s : Slt) (w : World) (h : Tb w ao n cap l) (hcap : cap ≤ 9223372036854775807) (hr : RightT l) (hc : chT l = []) :
    Calls Try.prog 22 #[.slice ao n cap, .agg #[.int .i64 s.gen, .bool s.live, .bool s.two, .int .i64 s.pos, .int .i64 s.len]] w fun e w' => e = .returned (.tuple #[.slice none 0 0, .agg #[.int .i64 0, .int .i64 0], .int .i64 9]) ∧ Below w.heap.size w w' := by
  have hroom := h.room
  have hn : n ≤ 9223372036854775807 := by omega
  have hbW := tkW_below w s
  have cR := right_tb ao n cap l (tkW w s) (h.below hbW) hn
  rw [rightB_t hr] at cR
  have cN : ∀ wr, Below w.heap.size w wr → Calls Try.prog 14 #[.slice ao n cap] wr fun e w' => e = .returned (.tuple #[.int .i64 0, .bool false]) ∧ Below wr.heap.size wr w' := fun wr hb => by
    have := next_tb ao n cap l wr (h.below hb) hn
    rwa [(nx_none hc).1, (nx_none hc).2] at this
  have hx := tkW_bx w s
  clear h hr hc
  go_enter Try.func22, Try.ntmps22
  go_wp2_with (first
    | (go_at_call 17; refine cR.mono ?_; rintro e w1 ⟨rfl, hb1⟩; have hb1' : Below w.heap.size w w1 := hbW.trans (hb1.mono hbW.size); have hx1 := hx.kept hb1)
    | (go_at_call 14; refine (cN _ hb1').mono ?_; rintro e w2 ⟨rfl, hb2⟩; obtain ⟨c0, c1, f0, f1⟩ := (hx1.kept hb2).cells))
  refine bodyPost_ret (v := .tuple #[.slice none 0 0, .agg #[.int .i64 0, .int .i64 0], .int .i64 9]) (by simp [results, Try.results22, go_sem, c0, c1]) rfl ⟨rfl, ?_⟩
  exact ((next hb1' hb2).setCell (by simp) _).setCell (by simp) _
theorem tkS_rgs {l : List Slt} {s : Slt} (hg : RgS (sg l (nxN l))) (hs : RgS s) : RgS (tkS l s) := ⟨hg.g, hs.p, hs.l⟩
set_option maxHeartbeats 1000000 in
theorem take_open (b off n cap : Nat) (l : List Slt) (s : Slt) (w : World) (h : Tb w (some ⟨b, off, none⟩) n cap l) (hs : RgS s) (hcap : cap ≤ 9223372036854775807) (hr : RightT l) (hc : ¬ chT l = []) :
    Calls Try.prog 22 #[.slice (some ⟨b, off, none⟩) n cap, .agg #[.int .i64 s.gen, .bool s.live, .bool s.two, .int .i64 s.pos, .int .i64 s.len]] w fun e w' => Below w.heap.size w w' ∧
      (¬ MayS (tkS l s) → e = .returned (.tuple #[.slice none 0 0, .agg #[.int .i64 0, .int .i64 0], .int .i64 1])) ∧
      (MayS (tkS l s) → ∃ bo c, e = .returned (.tuple #[.slice bo n c, .agg #[.int .i64 (nxN l : Nat), .int .i64 (sg l (nxN l)).gen], .int .i64 0]) ∧ OwT w.heap.size w' bo n c (l.set (nxN l) (tkS l s))) := by
  have hl := h.len
  have hroom := h.room
  have hlen := hr.len
  have hn : n ≤ 9223372036854775807 := by omega
  have hbW := tkW_below w s
  have cR := right_tb (some ⟨b, off, none⟩) n cap l (tkW w s) (h.below hbW) hn
  rw [rightB_t hr] at cR
  obtain ⟨k, hk⟩ : ∃ k, nxN l = k := ⟨_, rfl⟩
  have hkn : k < n := by have := (nx_spec hc).1; omega
  have hnb : nxB l = true := by simp [nxB, hc]
  have cN : ∀ wr, Below w.heap.size w wr → Calls Try.prog 14 #[.slice (some ⟨b, off, none⟩) n cap] wr fun e w' => e = .returned (.tuple #[.int .i64 (k : Int), .bool true]) ∧ Below wr.heap.size wr w' := fun wr hb => by
    have := next_tb (some ⟨b, off, none⟩) n cap l wr (h.below hb) hn
    rwa [hnb, hk] at this
  obtain ⟨t, ht⟩ : ∃ t, tkS l s = t := ⟨_, rfl⟩
  obtain ⟨g, hg⟩ : ∃ g, (sg l k).gen = g := ⟨_, rfl⟩
  have htg : t.gen = g ∧ t.live = true ∧ t.two = s.two ∧ t.pos = s.pos ∧ t.len = s.len := by rw [← ht, ← hg, ← hk]; exact ⟨rfl, rfl, rfl, rfl, rfl⟩
  have htr : RgS t := by rw [← ht]; exact tkS_rgs (by rw [hk]; exact h.rgs hkn) hs
  rw [hk, ht, hg]
  have cM := may_any t
  have cW : ∀ wr, Below w.heap.size w wr → Calls Try.prog 40 #[.slice (some ⟨b, off, none⟩) n cap, .int .i64 k, .agg #[.int .i64 t.gen, .bool t.live, .bool t.two, .int .i64 t.pos, .int .i64 t.len]] wr fun e w' => ∃ bo c, e = .returned (.slice bo n c) ∧ OwT wr.heap.size w' bo n c (l.set k t) ∧ Below wr.heap.size wr w' := fun wr hb => with_tb b off n cap k l t wr (h.below hb) hkn (by omega) htr hcap
  have hx := tkW_bx w s
  have hs5 := tkW_s5 w s
  have Hat : Hid (∀ wr, Below w.heap.size w wr → S5 wr b (off + k * 5) (sg l k)) := fun wr hb => h.at hb hkn
  obtain ⟨e0, e1, e2, e3, e4⟩ := htg
  rw [e0, e1, e2, e3, e4] at cM cW
  have hki : (k : Int) < (n : Int) := by omega
  clear h hr hc hnb hk ht htr hlen hl
  obtain ⟨sg0, sl, st, sp, sn⟩ := s
  simp only at *
  by_cases hm : MayS t
  · have HM := hid hm
    rw [mayB_t hm] at cM
    clear hm
    go_enter Try.func22, Try.ntmps22
    go_wp2_with (first
      | (go_at_call 17; refine cR.mono ?_; rintro e w1 ⟨rfl, hb1⟩; have hb1' : Below w.heap.size w w1 := hbW.trans (hb1.mono hbW.size); have hx1 := hx.kept hb1; have hs1 := hs5.below hb1)
      | (go_at_call 14; refine (cN _ hb1').mono ?_; rintro e w2 ⟨rfl, hb2⟩; have hx2 := hx1.kept hb2; have hb2' := next hb1' hb2; obtain ⟨c0, c1, c2, c3, c4⟩ := hs1.below hb2; obtain ⟨d0, d1, d2, d3, d4⟩ := Hat.out w2 hb2'; rw [hg] at d0))
    have hlt1 : b < w2.heap.size := World.block_lt_of_cell? w2 _ d0
    have hlt2 : w.heap.size < w2.heap.size := World.block_lt_of_cell? w2 _ c0
    have hlt3' : w.heap.size + 1 < w2.heap.size := World.block_lt_of_cell? w2 _ hx2.cells.1
    go_region_held3 (fun w' => w'.cell? ⟨w.heap.size, 2, none⟩ = some (.bool st) ∧ w'.cell? ⟨w.heap.size, 3, none⟩ = some (.int .i64 sp) ∧ w'.cell? ⟨w.heap.size, 4, none⟩ = some (.int .i64 sn) ∧ w'.cell? ⟨b, off + k * 5, none⟩ = some (.int .i64 g)) (go_keep) (fail)
    have hbN : Below w2.heap.size w2 (w2.alloc (.cells #[.int .i64 g, .bool true, .bool st, .int .i64 sp, .int .i64 sn] 39)).drew := ((Below.refl _ _).alloc (Nat.le_refl _) _).drew
    have h5N : S5 (w2.alloc (.cells #[.int .i64 g, .bool true, .bool st, .int .i64 sp, .int .i64 sn] 39)).drew w2.heap.size 0 ⟨g, true, st, sp, sn⟩ := (s5_new w2 ⟨g, true, st, sp, sn⟩).below (Below.refl _ _).drew
    have hxN := hx2.kept hbN
    have hbN' := next hb2' hbN
    clear hs1 hx1 hx2 hbN c0 c1 c2 c3 c4 d0 d1 d2 d3 d4 hb1 hb2 cR cN Hat
    go_wp2_with (first
      | (go_at_call 37; with_reducible refine (cM _).mono ?_; rintro e w3 ⟨rfl, hb3⟩; have hx3 := hxN.kept hb3; have hb3' := next hbN' hb3; obtain ⟨c0, c1, c2, c3, c4⟩ := h5N.below hb3; have h53 := hid (h5N.below hb3)))
    have hlt3 : w.heap.size + 1 < w2.heap.size := hlt3'
    have hne1 : w2.heap.size ≠ w.heap.size + 1 := by omega
    have hne2 : w.heap.size + 1 ≠ w2.heap.size := by omega
    clear hxN h5N hbN' hb3
    go_region_held3 (fun w' => w'.cell? ⟨w2.heap.size, 0, none⟩ = some (.int .i64 g) ∧ w'.cell? ⟨w2.heap.size, 1, none⟩ = some (.bool true) ∧ w'.cell? ⟨w2.heap.size, 2, none⟩ = some (.bool st) ∧ w'.cell? ⟨w2.heap.size, 3, none⟩ = some (.int .i64 sp) ∧ w'.cell? ⟨w2.heap.size, 4, none⟩ = some (.int .i64 sn)) (go_keep) (first
      | (go_at_call 40; with_reducible refine (cW _ hb3'.drew).mono ?_; rintro e w4 ⟨bo, c, rfl, ho4, hb4⟩; obtain ⟨f0, f1, f2, f3, f4⟩ := h53.out.below (next (Below.refl _ _).drew hb4); obtain ⟨x0, x1, x2, x3⟩ := (hx3.kept (next (Below.refl _ _).drew hb4)).cells))
    go_wp2
    refine bodyPost_ret (v := .tuple #[.slice bo n c, .agg #[.int .i64 k, .int .i64 g], .int .i64 0]) (by simp [results, Try.results22, go_sem, x0, x1]) rfl ⟨?_, fun h => absurd HM.out h, fun _ => ⟨bo, c, rfl, ?_⟩⟩
    · exact ((next hb3'.drew hb4).setCell (by simp) _).setCell (by simp) _
    · have hlt4 : w.heap.size + 1 < w3.heap.size := World.block_lt_of_cell? w3 _ hx3.cells.1
      have ho5 := ho4.off (F := fun j => j = w.heap.size + 1) (((Off.refl (fun j => j = w.heap.size + 1) w4).setCell ⟨w.heap.size + 1, 0, none⟩ (.int .i64 k) rfl).setCell ⟨w.heap.size + 1, 1, none⟩ (.int .i64 g) rfl) (fun a ha => ?_)
      · exact ho5.mono hb3'.drew.size
      · have := ho4.row.lt a.block (by rw [ha]; rfl)
        have h1 := this.1
        intro e
        simp at h1
        omega
  · have HM := hid hm
    rw [mayB_f hm] at cM
    clear hm
    go_enter Try.func22, Try.ntmps22
    go_wp2_with (first
      | (go_at_call 17; refine cR.mono ?_; rintro e w1 ⟨rfl, hb1⟩; have hb1' : Below w.heap.size w w1 := hbW.trans (hb1.mono hbW.size); have hx1 := hx.kept hb1; have hs1 := hs5.below hb1)
      | (go_at_call 14; refine (cN _ hb1').mono ?_; rintro e w2 ⟨rfl, hb2⟩; have hx2 := hx1.kept hb2; have hb2' := next hb1' hb2; obtain ⟨c0, c1, c2, c3, c4⟩ := hs1.below hb2; obtain ⟨d0, d1, d2, d3, d4⟩ := Hat.out w2 hb2'; rw [hg] at d0))
    have hlt1 : b < w2.heap.size := World.block_lt_of_cell? w2 _ d0
    have hlt2 : w.heap.size < w2.heap.size := World.block_lt_of_cell? w2 _ c0
    go_region_held3 (fun w' => w'.cell? ⟨w.heap.size, 2, none⟩ = some (.bool st) ∧ w'.cell? ⟨w.heap.size, 3, none⟩ = some (.int .i64 sp) ∧ w'.cell? ⟨w.heap.size, 4, none⟩ = some (.int .i64 sn) ∧ w'.cell? ⟨b, off + k * 5, none⟩ = some (.int .i64 g)) (go_keep) (fail)
    have hbN : Below w2.heap.size w2 (w2.alloc (.cells #[.int .i64 g, .bool true, .bool st, .int .i64 sp, .int .i64 sn] 39)).drew := ((Below.refl _ _).alloc (Nat.le_refl _) _).drew
    have hxN := hx2.kept hbN
    have hbN' := next hb2' hbN
    clear hs1 hx1 hx2 hbN c0 c1 c2 c3 c4 d0 d1 d2 d3 d4 hb1 hb2 cR cN Hat
    go_wp2_with (first
      | (go_at_call 37; with_reducible refine (cM _).mono ?_; rintro e w3 ⟨rfl, hb3⟩; obtain ⟨x0, x1, x2, x3⟩ := (hxN.kept hb3).cells; have hb3' := next hbN' hb3))
    refine bodyPost_ret (v := .tuple #[.slice none 0 0, .agg #[.int .i64 0, .int .i64 0], .int .i64 1]) (by simp [results, Try.results22, go_sem, x0, x1]) rfl ⟨?_, fun _ => rfl, fun h => absurd h HM.out⟩
    exact (hb3'.setCell (by simp) _).setCell (by simp) _
/-- table.Take. -/
theorem take_tb (ao : Option Addr) (n cap : Nat) (l : List Slt) (s : Slt) (w : World) (h : Tb w ao n cap l) (hs : RgS s) (hcap : cap ≤ 9223372036854775807) :
    Calls Try.prog 22 #[.slice ao n cap, .agg #[.int .i64 s.gen, .bool s.live, .bool s.two, .int .i64 s.pos, .int .i64 s.len]] w fun e w' => ∃ bo m c, e = .returned (.tuple #[.slice bo m c, .agg #[.int .i64 (tkI l s), .int .i64 (tkG l s)], .int .i64 (tkE l s)]) ∧ OwT w.heap.size w' bo m c (tkL l s) ∧ Below w.heap.size w w' := by
  by_cases hr : RightT l
  · by_cases hc : chT l = []
    · refine (take_none ao n cap l s w h hcap hr hc).mono ?_
      rintro e w' ⟨rfl, hb⟩
      have hno : ¬ TkOk l s := fun h => h.2.1 hc
      obtain ⟨e1, e2, e3, _⟩ := tk_f hno
      rw [e1, e2, e3, tkE_none hr hc]
      exact ⟨none, 0, 0, rfl, owT_nil _ _, hb⟩
    · have hl := h.len
      have hlen := hr.len
      obtain ⟨b, off, rfl, _, _⟩ := h.here (by omega)
      refine (take_open b off n cap l s w h hs hcap hr hc).mono ?_
      rintro e w' ⟨hb, h1, h2⟩
      by_cases hm : MayS (tkS l s)
      · obtain ⟨bo, c, rfl, ho⟩ := h2 hm
        obtain ⟨e1, e2, e3, e4⟩ := tk_t (l := l) (s := s) ⟨hr, hc, hm⟩
        rw [e1, e2, e3, e4]
        exact ⟨bo, n, c, rfl, ho, hb⟩
      · obtain rfl := h1 hm
        have hno : ¬ TkOk l s := fun h => hm h.2.2
        obtain ⟨e1, e2, e3, _⟩ := tk_f hno
        rw [e1, e2, e3, tkE_may hr hc hm]
        exact ⟨none, 0, 0, rfl, owT_nil _ _, hb⟩
  · refine (take_bad ao n cap l s w h hcap hr).mono ?_
    rintro e w' ⟨rfl, hb⟩
    have hno : ¬ TkOk l s := fun h => hr h.1
    obtain ⟨e1, e2, e3, _⟩ := tk_f hno
    rw [e1, e2, e3, tkE_right hr]
    exact ⟨none, 0, 0, rfl, owT_nil _ _, hb⟩
end Go.Proofs.Ytijfiaggneeibaa
