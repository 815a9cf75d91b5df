/- gaps.goOver with the closure of Behind; gaps.Behind by its contract. -/
import Derived.Test.YtjmhgcopaphdiaaGapC
import Derived.Deep.QuietTactic
import Derived.BigQuiet
namespace Go.Proofs.Ytjmhgcopaphdiaa
set_option maxRecDepth 100000
open Go.RowKit
set_option linter.unusedVariables false
set_option linter.unusedSimpArgs false
set_option maxRecDepth 100000

/-- What the closure of Behind has caught: the blocks, the number of one, what is found. -/
structure Bhd (w : World) (ub kb sb : Nat) (ao : Option Addr) (n cap k : Nat) (v : Int) : Prop where
  ou : w.heap[ub]? = some (.cells #[.slice ao n cap] 22 (0, 0))
  ok : w.heap[kb]? = some (.cells #[.int .i64 (k : Int)] 3 (0, 0))
  os : w.heap[sb]? = some (.cells #[.int .i64 v] 3 (0, 0))
  ne : kb ≠ sb
theorem Bhd.ne2 {w : World} {ub kb sb : Nat} {ao : Option Addr} {n cap k : Nat} {v : Int} (h : Bhd w ub kb sb ao n cap k v) : ub ≠ sb := by
  rintro rfl
  have := h.ou.symm.trans h.os
  simp at this
theorem Bhd.below {w w' : World} {ub kb sb : Nat} {ao : Option Addr} {n cap k : Nat} {v : Int} (h : Bhd w ub kb sb ao n cap k v) (hb : Below w.heap.size w w') : Bhd w' ub kb sb ao n cap k v :=
  ⟨(hb.block ub (Array.getElem?_eq_some_iff.1 h.ou).1).trans h.ou, (hb.block kb (Array.getElem?_eq_some_iff.1 h.ok).1).trans h.ok, (hb.block sb (Array.getElem?_eq_some_iff.1 h.os).1).trans h.os, h.ne⟩
theorem Bhd.off {F : Nat → Prop} {w w' : World} {ub kb sb : Nat} {ao : Option Addr} {n cap k : Nat} {v : Int} (h : Bhd w ub kb sb ao n cap k v) (ho : Off F w w') (h1 : ¬ F ub) (h2 : ¬ F kb) (h3 : ¬ F sb) : Bhd w' ub kb sb ao n cap k v :=
  ⟨(ho.block ub (Array.getElem?_eq_some_iff.1 h.ou).1 h1).trans h.ou, (ho.block kb (Array.getElem?_eq_some_iff.1 h.ok).1 h2).trans h.ok, (ho.block sb (Array.getElem?_eq_some_iff.1 h.os).1 h3).trans h.os, h.ne⟩
theorem Bhd.lt {w : World} {ub kb sb : Nat} {ao : Option Addr} {n cap k : Nat} {v : Int} (h : Bhd w ub kb sb ao n cap k v) : ub < w.heap.size ∧ kb < w.heap.size ∧ sb < w.heap.size :=
  ⟨(Array.getElem?_eq_some_iff.1 h.ou).1, (Array.getElem?_eq_some_iff.1 h.ok).1, (Array.getElem?_eq_some_iff.1 h.os).1⟩
theorem Bhd.cells {w : World} {ub kb sb : Nat} {ao : Option Addr} {n cap k : Nat} {v : Int} (h : Bhd w ub kb sb ao n cap k v) : w.cell? ⟨ub, 0, none⟩ = some (.slice ao n cap) ∧ w.cell? ⟨kb, 0, none⟩ = some (.int .i64 (k : Int)) ∧ w.cell? ⟨sb, 0, none⟩ = some (.int .i64 v) ∧ w.frozen? ⟨sb, 0, none⟩ = false := by
  refine ⟨?_, ?_, ?_, frozen_of_row w sb 0 _ 3 h.os⟩
  · rw [cell_of_row w ub 0 _ 22 (0, 0) h.ou]; rfl
  · rw [cell_of_row w kb 0 _ 3 (0, 0) h.ok]; rfl
  · rw [cell_of_row w sb 0 _ 3 (0, 0) h.os]; rfl
theorem Bhd.set {w : World} {ub kb sb : Nat} {ao : Option Addr} {n cap k : Nat} {v : Int} (h : Bhd w ub kb sb ao n cap k v) (y : Int) : Bhd (w.setCell ⟨sb, 0, none⟩ (.int .i64 y)) ub kb sb ao n cap k y := by
  refine ⟨?_, ?_, ?_, h.ne⟩
  · rw [heap_setCell_other w ⟨sb, 0, none⟩ ub _ h.ne2]; exact h.ou
  · rw [heap_setCell_other w ⟨sb, 0, none⟩ kb _ h.ne]; exact h.ok
  · rw [heap_setCell_same w sb 0 _ 3 _ h.os]; rfl
/-- What a visit leaves there. -/
def bhW (b s u : Spn) (v : Int) : Int := if b = u then s.sz else v
theorem bhW_t {b s u : Spn} {v : Int} (h : b = u) : bhW b s u v = s.sz := if_pos h
theorem bhW_f {b s u : Spn} {v : Int} (h : ¬ b = u) : bhW b s u v = v := if_neg h
/-- Where two spans part first. -/
theorem spn_ne {s t : Spn} (h : ¬ s = t) : (s.pos == t.pos) = false ∨ (s.pos = t.pos ∧ (s.sz == t.sz) = false) := by
  by_cases h0 : s.pos = t.pos
  · have h1 : ¬ s.sz = t.sz := fun h1 => h (Spn.ext' h0 h1)
    exact .inr ⟨h0, by simpa using h1⟩
  · exact .inl (by simpa using h0)
theorem bh1_any (ub kb sb : Nat) (b s : Spn) (ao : Option Addr) (n cap k : Nat) (l : List Spn) (v : Int) (w : World) (hB : Bhd w ub kb sb ao n cap k v) (h : Ps w ao n cap l) (hk : k < n) (hn : n ≤ 9223372036854775807) :
    Calls Try.prog 24 #[.agg #[.int .i64 b.pos, .int .i64 b.sz], .agg #[.int .i64 s.pos, .int .i64 s.sz], .pointer (some ⟨ub, 0, none⟩), .pointer (some ⟨kb, 0, none⟩), .pointer (some ⟨sb, 0, none⟩)] w fun e w' => e = .returned (.tuple #[]) ∧
      Bhd w' ub kb sb ao n cap k (bhW b s (pa l k) v) ∧ Off (fun j => j = sb) w w' := by
  obtain ⟨l1, l2, l3⟩ := hB.lt
  have hbA : Below w.heap.size w ((w.alloc b.obj).alloc s.obj) := ((Below.refl _ w).alloc (Nat.le_refl _) _).alloc (by simp) _
  obtain ⟨bb, o, rfl, hbl, _⟩ := h.here (by omega)
  obtain ⟨c0, c1⟩ := h.at hbA hk
  obtain ⟨q0, q1, q2, q3⟩ := (hB.below hbA).cells
  have HB := hid (hB.below hbA)
  have HA := hid (Off.of_below (F := fun j => j = sb) hbA)
  have hki : (k : Int) < (n : Int) := by omega
  clear hB h hbA
  generalize pa l k = u at *
  by_cases e : b = u
  · rw [bhW_t e]
    subst e
    obtain ⟨bp, bz⟩ := b
    obtain ⟨p, z⟩ := s
    simp only [Spn.obj] at *
    go_enter Try.func24, Try.ntmps24
    go_wp2
    go_quiet (fail)
    go_wp2
    go_end0
    refine ⟨rfl, ?_, ?_⟩
    · exact (HB.out.below (below_drewN (Below.refl _ _) _)).set z
    · exact (HA.out.drewN _).setCell _ _ rfl
  · rw [bhW_f e]
    have hd := spn_ne e
    obtain ⟨bp, bz⟩ := b
    obtain ⟨p, z⟩ := s
    obtain ⟨up, uz⟩ := u
    simp only [Spn.obj] at *
    clear e
    rcases hd with h1 | ⟨rfl, h1⟩
    all_goals
      go_enter Try.func24, Try.ntmps24
      go_wp2
      go_quiet (fail)
      go_wp2
      go_end0
      exact ⟨rfl, HB.out.below (below_drewN (Below.refl _ _) _), HA.out.drewN _⟩
/-- The block that stands ahead of the i-th one. -/
def blkN (f : Int) (l : List Spn) : Nat → Spn
  | 0 => ⟨f, 0⟩
  | i + 1 => pa l i
/-- What is found behind i visits. -/
def fndN (l : List Spn) (t : Int) (k i : Nat) : Int := if k + 2 ≤ i then bhN l t k else 0
theorem blk_fin {f t : Int} {l : List Spn} (hr : RightP f t l) : ∀ i, i ≤ l.length → 0 ≤ (blkN f l i).fin ∧ (blkN f l i).fin ≤ t := by
  intro i hi
  obtain ⟨⟨a0, a1, a2, _, _⟩, hl⟩ := hr
  cases i with
  | zero => simp [blkN, Spn.fin]; omega
  | succ i =>
    obtain ⟨q1, q2, q3, q4, q5⟩ := lay_fit hl (show i < l.length by omega)
    simp only [blkN, Spn.fin]
    omega
theorem blk_le {f t : Int} {l : List Spn} (hr : RightP f t l) : ∀ i, i < l.length → (blkN f l i).fin ≤ (pa l i).pos ∧ (pa l i).pos ≤ t := by
  intro i hi
  obtain ⟨⟨a0, a1, a2, _, _⟩, hl⟩ := hr
  obtain ⟨q1, q2, q3, q4, q5⟩ := lay_fit hl hi
  cases i with
  | zero => simp only [blkN, Spn.fin]; omega
  | succ i =>
    have := lay_order hl (show i < i + 1 by omega) hi
    simp only [blkN]
    omega
theorem blk_same {f t : Int} {l : List Spn} (hr : RightP f t l) {k : Nat} (hk : k < l.length) : ∀ i, i ≤ l.length → (blkN f l i = pa l k ↔ i = k + 1) := by
  intro i hi
  cases i with
  | zero =>
    refine ⟨fun e => ?_, fun e => by omega⟩
    have := (hr.fit hk).2.2.1
    rw [← e] at this
    simp [blkN] at this
  | succ i =>
    simp only [blkN]
    refine ⟨fun e => ?_, fun e => by rw [show i = k by omega]⟩
    by_cases h : i = k
    · omega
    · exact absurd e (lay_ne hr.2 (by omega) hk h)
theorem fnd_next {f t : Int} {l : List Spn} (hr : RightP f t l) {k : Nat} (hk : k < l.length) {i : Nat} (hi : i < l.length) : bhW (blkN f l i) ⟨(blkN f l i).fin, (pa l i).pos - (blkN f l i).fin⟩ (pa l k) (fndN l t k i) = fndN l t k (i + 1) := by
  by_cases e : i = k + 1
  · rw [bhW_t ((blk_same hr hk i (by omega)).2 e)]
    subst e
    simp only [fndN]
    rw [if_pos (by omega), bh_more hi]
    rfl
  · rw [bhW_f (fun h => e ((blk_same hr hk i (by omega)).1 h))]
    unfold fndN
    by_cases h : k + 2 ≤ i
    · rw [if_pos h, if_pos (by omega)]
    · rw [if_neg h, if_neg (by omega)]
theorem fnd_last {f t : Int} {l : List Spn} (hr : RightP f t l) {k : Nat} (hk : k < l.length) {i : Nat} (hi : i = l.length) : bhW (blkN f l i) ⟨(blkN f l i).fin, t - (blkN f l i).fin⟩ (pa l k) (fndN l t k i) = bhN l t k := by
  by_cases e : i = k + 1
  · rw [bhW_t ((blk_same hr hk i (by omega)).2 e)]
    subst e
    rw [bh_last (by omega)]
    rfl
  · rw [bhW_f (fun h => e ((blk_same hr hk i (by omega)).1 h))]
    unfold fndN
    rw [if_pos (by omega)]
set_option maxHeartbeats 1000000 in
theorem over2_ps (f t : Int) (ao : Option Addr) (n cap : Nat) (l : List Spn) (ub kb sb k : Nat) (w : World) (h : Ps w ao n cap l) (hr : RightP f t l) (hB : Bhd w ub kb sb ao n cap k 0) (hkn : k < n) (hne : 0 < n → ∀ a, ao = some a → a.block ≠ sb) :
    Calls Try.prog 22 #[.int .i64 f, .int .i64 t, .slice ao n cap, .func (.func 24) #[] #[.pointer (some ⟨ub, 0, none⟩), .pointer (some ⟨kb, 0, none⟩), .pointer (some ⟨sb, 0, none⟩)]] w fun e w' => e = .returned (.tuple #[]) ∧
      Bhd w' ub kb sb ao n cap k (bhN l t k) ∧ Off (fun j => j = sb) w w' := by
  have hl := h.len
  have hn512 : n ≤ 512 := by have := hr.len; omega
  have a2 : t ≤ 2048 := hr.1.2.2.1
  have a0 : 0 ≤ t := by have := hr.1; unfold EndP at this; omega
  obtain ⟨l1, l2, l3⟩ := hB.lt
  have HX := hid (bxP_new w ⟨f, 0⟩)
  have HB := hid (hB.below ((Below.refl _ w).alloc (Nat.le_refl _) (Spn.obj ⟨f, 0⟩)))
  have HW : Hid (Off (fun j => j = sb) w (w.alloc (Spn.obj ⟨f, 0⟩))) := hid (Off.of_below ((Below.refl _ w).alloc (Nat.le_refl _) _))
  simp only [Spn.obj] at HX HB HW
  clear hB
  obtain ⟨bb, o, rfl, hbl, _⟩ := h.here (by omega)
  have hbne : bb ≠ sb := hne (by omega) _ rfl
  clear hne
  go_enter Try.func22, Try.ntmps22
  go_wp2
  go_loopw [15] (fun s15 wr => ∃ (i : Nat), i ≤ n ∧ s15 = .int .i64 i ∧ Hid (Bhd wr ub kb sb (some ⟨bb, o, none⟩) n cap k (fndN l t k i)) ∧ Hid (BxP wr w.heap.size (blkN f l i)) ∧ Hid (Off (fun j => j = sb) w wr)) (fun s15 _ => n - (intOf s15).toNat)
  case atStart => exact ⟨0, Nat.zero_le _, rfl, HB, HX, HW⟩
  case round =>
    obtain ⟨i, hi, rfl, HB1, HX1, HW1⟩ := hrel
    clear HX HB HW
    obtain ⟨e, he⟩ : ∃ e, (blkN f l i).fin = e := ⟨_, rfl⟩
    have hef := blk_fin hr i (by omega)
    rw [he] at hef
    obtain ⟨he0, het⟩ := hef
    have cE : ∀ w', Calls Try.prog 26 #[.agg #[.int .i64 (blkN f l i).pos, .int .i64 (blkN f l i).sz]] w' fun r w'' => r = .returned (.int .i64 e) ∧ Below w'.heap.size w' w'' := fun w' => by
      have := end_any (blkN f l i) w' (by unfold Spn.fin at he; unfold Rg; omega)
      rwa [he] at this
    have hsw : sb < wr.heap.size := HB1.out.lt.2.2
    have hxw : w.heap.size < wr.heap.size := HX1.out.lt
    obtain ⟨x0, x1, x2, x3⟩ := HX1.out.cells
    by_cases hlt : i < n
    · obtain ⟨c0, c1⟩ := (h.off HW1.out (fun _ c e => by cases e; exact hbne)).at (Below.refl _ _) hlt
      have hki : (i : Int) < (n : Int) := by omega
      have HN := hid (bxP_new wr (pa l i))
      have hle := blk_le hr i (by omega)
      rw [he] at hle
      have HF := hid (fnd_next hr (show k < l.length by omega) (show i < l.length by omega))
      rw [he] at HF
      have HNB : Hid (blkN f l (i + 1) = pa l i) := rfl
      have hbW : Below wr.heap.size wr (wr.alloc (pa l i).obj) := (Below.refl _ wr).alloc (Nat.le_refl _) _
      have cV : ∀ w', Below (wr.alloc (pa l i).obj).heap.size (wr.alloc (pa l i).obj) w' → Calls Try.prog 24 #[.agg #[.int .i64 (blkN f l i).pos, .int .i64 (blkN f l i).sz], .agg #[.int .i64 e, .int .i64 ((pa l i).pos - e)], .pointer (some ⟨ub, 0, none⟩), .pointer (some ⟨kb, 0, none⟩), .pointer (some ⟨sb, 0, none⟩)] w' fun r w'' => r = .returned (.tuple #[]) ∧
          Bhd w'' ub kb sb (some ⟨bb, o, none⟩) n cap k (fndN l t k (i + 1)) ∧ BxP w'' w.heap.size (blkN f l i) ∧ BxP w'' wr.heap.size (pa l i) ∧ Off (fun j => j = sb) w w'' := fun w' hb => by
        have hbb := next hbW hb
        have hof : Off (fun j => j = sb) w w' := HW1.out.trans (F' := fun _ => False) (Off.of_below hbb) (fun _ h => h.elim)
        have hps := h.off hof (fun _ c e => by cases e; exact hbne)
        refine (bh1_any ub kb sb (blkN f l i) ⟨e, (pa l i).pos - e⟩ (some ⟨bb, o, none⟩) n cap k l _ w' (HB1.out.below hbb) hps hkn (by omega)).mono ?_
        rintro r w'' ⟨rfl, k1, k2⟩
        rw [HF.out] at k1
        exact ⟨rfl, k1, (HX1.out.kept hbb).off k2 (by omega), (HN.out.kept hb).off k2 (by omega), hof.trans k2 (fun j hj => Or.inl hj)⟩
      have cB := fun w' => between_any e (pa l i).pos w' (by unfold Rg; omega)
      have HX2 := hid (HX1.out.kept hbW)
      have hne1 : w.heap.size ≠ wr.heap.size := by omega
      have hne2 : wr.heap.size ≠ w.heap.size := by omega
      clear HF HB1 HX1 HW1 hbW h hr he hle
      generalize pa l i = s at *
      generalize blkN f l i = blk at *
      obtain ⟨p, z⟩ := s
      obtain ⟨bp, bz⟩ := blk
      simp only [Spn.obj] at *
      go_wp2_with fail
      go_region_held3 (fun w' => w'.cell? ⟨w.heap.size, 0, none⟩ = some (.int .i64 bp) ∧ w'.cell? ⟨w.heap.size, 1, none⟩ = some (.int .i64 bz) ∧ w'.cell? ⟨wr.heap.size, 0, none⟩ = some (.int .i64 p)) (go_keep) (first
        | (go_at_call 26; with_reducible refine (cE _).mono ?_; rintro r w1 ⟨rfl, hb1⟩; have HB1 := hid (next (Below.refl _ _).drew hb1); obtain ⟨y0, y1, _, _⟩ := (HX2.out.kept HB1.out).cells; obtain ⟨z0, _, _, _⟩ := (HN.out.kept HB1.out).cells; clear hb1)
        | (go_at_call 28; with_reducible refine (cB _).mono ?_; rintro r w2 ⟨rfl, hb2⟩; have HB2 := hid (next HB1.out hb2); obtain ⟨y0, y1, _, _⟩ := (HX2.out.kept HB2.out).cells; obtain ⟨z0, _, _, _⟩ := (HN.out.kept HB2.out).cells; clear hb2)
        | (go_at_call 24; with_reducible refine (cV _ HB2.out).mono ?_; rintro r w3 ⟨rfl, k1, k4, k5, k6⟩; have HK1 := hid k1; have HK4 := hid k4; have HK5 := hid k5; have HK6 := hid k6; clear k1 k4 k5 k6; obtain ⟨y0, y1, y2, y3⟩ := HK4.out.cells; obtain ⟨z0, z1, _, _⟩ := HK5.out.cells))
      clear HX2 HN HB1 HB2 cE cB cV x0 x1 x2 x3 c0 c1
      go_wp2
      go_roundw
      case rel => exact ⟨i + 1, by omega, by go_num, hid (HK1.out.off (two_set _ _ _ _) (by omega) (by omega) (by omega)), by rw [HNB.out]; exact hid (HK4.out.set ⟨p, z⟩), hid (two_off HK6.out)⟩
      case measure => simp [intOf]; omega
    · obtain rfl : i = n := by omega
      have HF := hid (fnd_last hr (show k < l.length by omega) (show i = l.length by omega))
      rw [he] at HF
      have cB := fun w' => between_any e t w' (by unfold Rg; omega)
      have cV : ∀ w', Below wr.heap.size wr w' → Calls Try.prog 24 #[.agg #[.int .i64 (blkN f l i).pos, .int .i64 (blkN f l i).sz], .agg #[.int .i64 e, .int .i64 (t - e)], .pointer (some ⟨ub, 0, none⟩), .pointer (some ⟨kb, 0, none⟩), .pointer (some ⟨sb, 0, none⟩)] w' fun r w'' => r = .returned (.tuple #[]) ∧
          Bhd w'' ub kb sb (some ⟨bb, o, none⟩) i cap k (bhN l t k) ∧ BxP w'' w.heap.size (blkN f l i) ∧ Off (fun j => j = sb) w w'' := fun w' hb => by
        have hof : Off (fun j => j = sb) w w' := HW1.out.trans (F' := fun _ => False) (Off.of_below hb) (fun _ h => h.elim)
        have hps := h.off hof (fun _ c e => by cases e; exact hbne)
        refine (bh1_any ub kb sb (blkN f l i) ⟨e, t - e⟩ (some ⟨bb, o, none⟩) i cap k l _ w' (HB1.out.below hb) hps hkn (by omega)).mono ?_
        rintro r w'' ⟨rfl, k1, k2⟩
        rw [HF.out] at k1
        exact ⟨rfl, k1, (HX1.out.kept hb).off k2 (by omega), hof.trans k2 (fun j hj => Or.inl hj)⟩
      have hki : ¬ ((i : Int) < (i : Int)) := by omega
      clear HF HB1 HW1 h hr he
      generalize blkN f l i = blk at *
      obtain ⟨bp, bz⟩ := blk
      simp only at *
      go_wp2_with fail
      go_region_held3 (fun w' => w'.cell? ⟨w.heap.size, 0, none⟩ = some (.int .i64 bp) ∧ w'.cell? ⟨w.heap.size, 1, none⟩ = some (.int .i64 bz)) (go_keep) (first
        | (go_at_call 26; with_reducible refine (cE _).mono ?_; rintro r w1 ⟨rfl, hb1⟩; have HB1 := hid (next (Below.refl _ _).drew hb1); obtain ⟨y0, y1, _, _⟩ := (HX1.out.kept HB1.out).cells; clear hb1)
        | (go_at_call 28; with_reducible refine (cB _).mono ?_; rintro r w2 ⟨rfl, hb2⟩; have HB2 := hid (next HB1.out hb2); obtain ⟨y0, y1, _, _⟩ := (HX1.out.kept HB2.out).cells; clear hb2)
        | (go_at_call 24; with_reducible refine (cV _ HB2.out).mono ?_; rintro r w3 ⟨rfl, k1, k4, k6⟩; have HK1 := hid k1; have HK4 := hid k4; have HK6 := hid k6; clear k1 k4 k6; obtain ⟨y0, y1, y2, y3⟩ := HK4.out.cells))
      go_wp2
      go_end0
      exact ⟨rfl, HK1.out, HK6.out⟩
/-- The two variables with which Behind begins. -/
def bhW0 (w : World) (ao : Option Addr) (n cap : Nat) (k : Int) : World := (w.alloc (.cells #[.slice ao n cap] 22)).alloc (.cells #[.int .i64 k] 3)
theorem bhW0_below (w : World) (ao : Option Addr) (n cap : Nat) (k : Int) : Below w.heap.size w (bhW0 w ao n cap k) := ((Below.refl _ w).alloc (Nat.le_refl _) _).alloc (by simp) _
theorem bhW0_u (w : World) (ao : Option Addr) (n cap : Nat) (k : Int) : (bhW0 w ao n cap k).heap[w.heap.size]? = some (.cells #[.slice ao n cap] 22 (0, 0)) := by
  unfold bhW0
  rw [heap_alloc_old _ _ (show w.heap.size < _ by simp)]
  exact heap_alloc_new w _
theorem bhW0_k (w : World) (ao : Option Addr) (n cap : Nat) (k : Int) : (bhW0 w ao n cap k).heap[w.heap.size + 1]? = some (.cells #[.int .i64 k] 3 (0, 0)) := by
  have e := heap_alloc_new (w.alloc (.cells #[.slice ao n cap] 22)) (.cells #[.int .i64 k] 3)
  rwa [show (w.alloc (.cells #[.slice ao n cap] 22)).heap.size = w.heap.size + 1 by simp] at e
theorem behindP_ps (f t : Int) (ao : Option Addr) (n cap : Nat) (l : List Spn) (k : Int) (w : World) (h : Ps w ao n cap l) (hn : n ≤ 9223372036854775807) :
    Calls Try.prog 14 #[.int .i64 f, .int .i64 t, .slice ao n cap, .int .i64 k] w fun e w' => e = .returned (.tuple #[.int .i64 (bhV f t l k), .int .i64 (bhE f t l k)]) ∧ Below w.heap.size w w' := by
  have hl := h.len
  have hbW := bhW0_below w ao n cap k
  have hszW : (bhW0 w ao n cap k).heap.size = w.heap.size + 2 := by simp [bhW0]
  have cR := rightP_ps f t ao n cap l (bhW0 w ao n cap k) (h.below hbW) hn
  have Hu : Hid (∀ w1, Below (bhW0 w ao n cap k).heap.size (bhW0 w ao n cap k) w1 → w1.heap[w.heap.size]? = some (.cells #[.slice ao n cap] 22 (0, 0))) := fun w1 hb => (hb.block _ (by omega)).trans (bhW0_u w ao n cap k)
  have Hk : Hid (∀ w1, Below (bhW0 w ao n cap k).heap.size (bhW0 w ao n cap k) w1 → w1.heap[w.heap.size + 1]? = some (.cells #[.int .i64 k] 3 (0, 0))) := fun w1 hb => (hb.block _ (by omega)).trans (bhW0_k w ao n cap k)
  have Hc : Hid (∀ w1, Below (bhW0 w ao n cap k).heap.size (bhW0 w ao n cap k) w1 → w1.cell? ⟨w.heap.size, 0, none⟩ = some (.slice ao n cap) ∧ w1.cell? ⟨w.heap.size + 1, 0, none⟩ = some (.int .i64 k)) := fun w1 hb => by
    refine ⟨?_, ?_⟩
    · rw [cell_of_row w1 w.heap.size 0 _ 22 (0, 0) (Hu.out w1 hb)]; rfl
    · rw [cell_of_row w1 (w.heap.size + 1) 0 _ 3 (0, 0) (Hk.out w1 hb)]; rfl
  obtain ⟨r0, r1⟩ := Hc.out _ (Below.refl _ _)
  by_cases hr : RightP f t l
  · rw [rightPB_t hr] at cR
    by_cases hk0 : k < 0
    · obtain ⟨e1, e2⟩ := bh_f (f := f) (t := t) (l := l) (k := k) (fun h => by have := h.2.1; omega)
      rw [e1, e2]
      clear h hr e1 e2 Hu Hk
      unfold bhW0 at *
      go_enter Try.func14, Try.ntmps14
      go_wp2_with (first
        | (go_at_call 17; with_reducible refine cR.mono ?_; rintro e w1 ⟨rfl, hb1⟩; obtain ⟨c0, c1⟩ := Hc.out w1 hb1))
      go_ret2
      exact ⟨rfl, next hbW hb1⟩
    · by_cases hk1 : (n : Int) ≤ k
      · obtain ⟨e1, e2⟩ := bh_f (f := f) (t := t) (l := l) (k := k) (fun h => by have := h.2.2; omega)
        rw [e1, e2]
        clear h hr e1 e2 Hu Hk
        unfold bhW0 at *
        go_enter Try.func14, Try.ntmps14
        go_wp2_with (first
          | (go_at_call 17; with_reducible refine cR.mono ?_; rintro e w1 ⟨rfl, hb1⟩; obtain ⟨c0, c1⟩ := Hc.out w1 hb1))
        go_ret2
        exact ⟨rfl, next hbW hb1⟩
      · obtain ⟨j, rfl⟩ := Int.eq_ofNat_of_zero_le (show 0 ≤ k by omega)
        obtain ⟨e1, e2⟩ := bh_t (f := f) (t := t) (l := l) (k := (j : Int)) ⟨hr, by omega, by omega⟩
        rw [e1, e2, Int.toNat_natCast]
        have cO : ∀ w1, Below (bhW0 w ao n cap j).heap.size (bhW0 w ao n cap j) w1 → Calls Try.prog 22 #[.int .i64 f, .int .i64 t, .slice ao n cap, .func (.func 24) #[] #[.pointer (some ⟨w.heap.size, 0, none⟩), .pointer (some ⟨w.heap.size + 1, 0, none⟩), .pointer (some ⟨w1.heap.size, 0, none⟩)]] (w1.alloc (.cells #[.int .i64 0] 3)) fun e w' => e = .returned (.tuple #[]) ∧
            w'.cell? ⟨w1.heap.size, 0, none⟩ = some (.int .i64 (bhN l t j)) ∧ Below w.heap.size w w' := fun w1 hb => by
          have hs1 := hb.size
          have hbA : Below w1.heap.size w1 (w1.alloc (.cells #[.int .i64 0] 3)) := (Below.refl _ _).alloc (Nat.le_refl _) _
          have hbB := next (next hbW hb) hbA
          refine (over2_ps f t ao n cap l w.heap.size (w.heap.size + 1) w1.heap.size j _ (h.below hbB) hr ⟨(hbA.block _ (by omega)).trans (Hu.out w1 hb), (hbA.block _ (by omega)).trans (Hk.out w1 hb), heap_alloc_new _ _, by omega⟩ (by omega) (fun h0 a ha e => ?_)).mono ?_
          · obtain ⟨b, off, e', hlt, _⟩ := h.here h0
            rw [ha] at e'
            cases e'
            simp only at e
            omega
          · rintro e w' ⟨rfl, k1, k2⟩
            exact ⟨rfl, k1.cells.2.2.1, hbB.trans (k2.below (fun j hj => by omega) hbB.size)⟩
        have u0 : ¬ ((j : Int) < 0) := by omega
        have u1 : ¬ (n ≤ j) := by omega
        clear h hr e1 e2 Hu Hk
        unfold bhW0 at *
        go_enter Try.func14, Try.ntmps14
        go_wp2_with (first
          | (go_at_call 17; with_reducible refine cR.mono ?_; rintro e w1 ⟨rfl, hb1⟩; obtain ⟨c0, c1⟩ := Hc.out w1 hb1; obtain ⟨c2, c3⟩ := Hc.out (w1.alloc (.cells #[.int .i64 0] 3)) (hb1.alloc hb1.size _))
          | (go_at_call 22; with_reducible refine (cO _ hb1).mono ?_; rintro e w2 ⟨rfl, k1, k3⟩))
        go_ret2
        exact ⟨rfl, k3⟩
  · rw [rightPB_f hr] at cR
    obtain ⟨e1, e2⟩ := bh_f (f := f) (t := t) (l := l) (k := k) (fun h => hr h.1)
    rw [e1, e2]
    clear h hr e1 e2 Hu Hk
    unfold bhW0 at *
    go_enter Try.func14, Try.ntmps14
    go_wp2_with (first
      | (go_at_call 17; with_reducible refine cR.mono ?_; rintro e w1 ⟨rfl, hb1⟩; obtain ⟨c0, c1⟩ := Hc.out w1 hb1))
    go_ret2
    exact ⟨rfl, next hbW hb1⟩
end Go.Proofs.Ytjmhgcopaphdiaa
