/- Rows of bytes that can be read; tags.spans, holds by their contracts. -/
import Derived.Test.YtclkooaepfedaaaDoorTagA
import Derived.Deep.QuietTactic
import Derived.BigQuiet
namespace Go.Proofs.YtclkooaepfedaaaDoor
set_option maxRecDepth 100000
open Go.RowKit
set_option linter.unusedVariables false
set_option linter.unusedSimpArgs false
set_option maxRecDepth 100000

/-- n rows of bytes that can be read: the i-th is the slice of A i, N i, C i. -/
structure Rd (w : World) (ao : Option Addr) (n cap : Nat) (A : Nat → Option Addr) (N C : Nat → Nat) (ds : List (List Int)) : Prop where
  len : ds.length = n
  room : n ≤ cap
  void : ao = none → cap = 0
  here : 0 < n → ∃ b off, ao = some ⟨b, off, none⟩ ∧ b < w.heap.size ∧ ∀ i, i < n → w.cell? ⟨b, off + i, none⟩ = some (.slice (A i) (N i) (C i))
  row : ∀ i, i < n → Sl .u8 w (A i) (N i) (C i) (da ds i)
  bytes : ∀ i, i < n → Bytes (da ds i)
  caps : ∀ i, i < n → C i ≤ 9223372036854775807
theorem Rd.below {w w' : World} {ao : Option Addr} {n cap : Nat} {A : Nat → Option Addr} {N C : Nat → Nat} {ds : List (List Int)} (h : Rd w ao n cap A N C ds) (hb : Below w.heap.size w w') : Rd w' ao n cap A N C ds := by
  refine ⟨h.len, h.room, h.void, fun hn => ?_, fun i hi => (h.row i hi).below hb, h.bytes, h.caps⟩
  obtain ⟨b, off, e, hlt, hc⟩ := h.here hn
  refine ⟨b, off, e, Nat.lt_of_lt_of_le hlt hb.size, fun i hi => ?_⟩
  rw [hb.cell (p := ⟨b, off + i, none⟩) hlt]
  exact hc i hi
theorem Rd.off {F : Nat → Prop} {w w' : World} {ao : Option Addr} {n cap : Nat} {A : Nat → Option Addr} {N C : Nat → Nat} {ds : List (List Int)} (h : Rd w ao n cap A N C ds) (ho : Off F w w') (hF : ∀ j, j < w.heap.size → ¬ F j) : Rd w' ao n cap A N C ds :=
  h.below ⟨ho.os, ho.tape, ho.output, ho.size, fun k hk => ho.block k hk (hF k hk)⟩
theorem Rd.cell {w wr : World} {b off n cap : Nat} {A : Nat → Option Addr} {N C : Nat → Nat} {ds : List (List Int)} (h : Rd w (some ⟨b, off, none⟩) n cap A N C ds) (hb : Below w.heap.size w wr) {i : Nat} (hi : i < n) : wr.cell? ⟨b, off + i, none⟩ = some (.slice (A i) (N i) (C i)) := by
  obtain ⟨b', o', e, _, hc⟩ := (h.below hb).here (by omega)
  simp only [Option.some.injEq, Addr.mk.injEq, and_true] at e
  obtain ⟨rfl, rfl⟩ := e
  exact hc i hi
theorem rd_nil (w : World) (A : Nat → Option Addr) (N C : Nat → Nat) : Rd w none 0 0 A N C [] := ⟨rfl, Nat.le_refl _, fun _ => rfl, fun h => absurd h (by omega), fun i h => absurd h (by omega), fun i h => absurd h (by omega), fun i h => absurd h (by omega)⟩

theorem rgp_z : RgP Spn.z := ⟨by unfold Rg; decide, by unfold Rg; decide⟩
theorem made_spans (n : Nat) : (madeCells #[Value.int .i64 0, .int .i64 0] (n * 2)).toList = cellsP (List.replicate n Spn.z) := by
  apply List.ext_getElem?
  intro i
  by_cases hi : i < n * 2
  · have g2 := cellsP_get (List.replicate n Spn.z) (i := i / 2) (j := i % 2) (by simp; omega) (Nat.mod_lt _ (by omega))
    rw [show i / 2 * 2 + i % 2 = i by omega] at g2
    rw [g2]
    have e : pa (List.replicate n Spn.z) (i / 2) = Spn.z := by simp [pa, List.getD, show i / 2 < n by omega]
    rw [e]
    rcases (show i % 2 = 0 ∨ i % 2 = 1 by omega) with e1 | e1 <;>
      simp [madeCells, hi, e1, Spn.cells, Spn.z]
  · rw [List.getElem?_eq_none (by simp [madeCells]; omega), List.getElem?_eq_none (by rw [cellsP_length]; simp; omega)]
/-- The first k are there. -/
def spK (l : List Blk) (k : Nat) : List Spn := spL (l.take k) ++ List.replicate (l.length - k) Spn.z
theorem spK_zero (l : List Blk) : spK l 0 = List.replicate l.length Spn.z := by simp [spK, spL]
theorem spK_full (l : List Blk) : spK l l.length = spL l := by simp [spK]
theorem spK_length (l : List Blk) (k : Nat) (h : k ≤ l.length) : (spK l k).length = l.length := by simp [spK, spL]; omega
theorem spK_set (l : List Blk) (k : Nat) (h : k < l.length) : (spK l k).set k (ba l k).spn = spK l (k + 1) := by
  unfold spK
  have e : (spL (l.take k)).length = k := by simp [spL]; omega
  rw [List.set_append_right _ _ (by omega), e, Nat.sub_self, show l.length - k = (l.length - (k + 1)) + 1 by omega, List.replicate_succ, List.set_cons_zero, take_ba h]
  simp [spL]
theorem spans_bs (ao : Option Addr) (n cap : Nat) (l : List Blk) (w : World) (h : Bs w ao n cap l) (hn : n ≤ 100000) :
    Calls Tryd.prog 26 #[.slice ao n cap] w fun e w' => ∃ bo c, e = .returned (.slice bo n c) ∧ OwP w.heap.size w' bo n c (spL l) ∧ Below w.heap.size w w' := by
  obtain ⟨i0, hi, hz0, hz1, hz2⟩ := info_parts Tryd.info64
  have hl := h.len
  go_enter Tryd.func26, Tryd.ntmps26
  go_wp2_with (first
    | (at_make; refine wpList_make_full _ rfl _ _ 52 rfl w.heap.size 64 i0 (.agg #[.int .i64 0, .int .i64 0]) 2 Tryd.underlying52 hi hz0 hz1 .i64 .i64 _ _ n rfl rfl rfl rfl ?b2 ?b3 ?b4 ?_))
  case b2 => rw [hz2]; omega
  case b3 => unfold maxLen; omega
  case b4 => exact Nat.le_refl _
  intro w1 hown hgrow
  have hown' : OwP w.heap.size w1 (some ⟨w.heap.size, 0, none⟩) n n (spK l 0) := ⟨by rw [spK_zero]; simpa using hl, by rw [spK_zero, hl, ← made_spans]; exact hown, fun s hs => by rw [spK_zero] at hs; rw [List.eq_of_mem_replicate hs]; exact rgp_z⟩
  have hbel : Below w.heap.size w w1 := (Below.refl _ _).grown hgrow (Nat.le_refl _) (by intro k hk; cases hk)
  clear hown hgrow hi hz0 hz1 hz2
  go_wp2
  go_loopw [11] (fun t wr => ∃ k : Nat, k ≤ n ∧ t = .int .i64 k ∧ Hid (OwP w.heap.size wr (some ⟨w.heap.size, 0, none⟩) n n (spK l k)) ∧ Below w.heap.size w wr) (fun t _ => n - (intOf t).toNat)
  case atStart => exact ⟨0, Nat.zero_le _, rfl, hid hown', hbel⟩
  case round =>
    clear hown' hbel
    obtain ⟨k, hk, rfl, HO, hb⟩ := hrel
    by_cases hlt : k < n
    · obtain ⟨b, off, rfl, hbl, _⟩ := h.here (by omega)
      obtain ⟨c0, c1, c2⟩ := h.at hb hlt
      have hrg := h.rgs hlt
      have hki : (k : Int) < (n : Int) := by omega
      have hwg : w.heap.size < wr.heap.size := (HO.out.row.lt w.heap.size rfl).2
      have HS : Hid (OwP w.heap.size (((wr.setCell ⟨w.heap.size, k * 2, none⟩ (.int .i64 (ba l k).pos)).setCell ⟨w.heap.size, k * 2 + 1, none⟩ (.int .i64 (ba l k).sz)).alloc (ba l k).obj) (some ⟨w.heap.size, 0, none⟩) n n (spK l (k + 1))) := hid (by
        have := (HO.out.set hlt (s := (ba l k).spn) ⟨hrg.p, hrg.z⟩).below ((Below.refl _ _).alloc (Nat.le_refl _) (ba l k).obj)
        rwa [spK_set l k (by omega)] at this)
      have HB : Hid (Below w.heap.size w (((wr.setCell ⟨w.heap.size, k * 2, none⟩ (.int .i64 (ba l k).pos)).setCell ⟨w.heap.size, k * 2 + 1, none⟩ (.int .i64 (ba l k).sz)).alloc (ba l k).obj)) := hid (((hb.setCell (Nat.le_refl _) _).setCell (Nat.le_refl _) _).alloc (by have := hb.size; simp; exact this) _)
      obtain ⟨q0, q1⟩ := HO.out.ps.at (Below.refl _ _) hlt
      have q2 := HO.out.free (k * 2)
      have q3 := HO.out.free (k * 2 + 1)
      rw [Nat.zero_add] at q0 q1
      clear HO h hrg
      generalize ba l k = s at *
      generalize pa (spK l k) k = s0 at *
      obtain ⟨p, z, x⟩ := s
      obtain ⟨p0, z0⟩ := s0
      simp only [Blk.obj] at *
      go_wp2
      go_roundw
      case rel => exact ⟨k + 1, by omega, by go_num, HS, HB.out⟩
      case measure => simp [intOf]; omega
    · obtain rfl : k = n := by omega
      have hki : ¬ ((k : Int) < (k : Int)) := by omega
      go_wp2
      go_ret
      exact ⟨_, _, rfl, by have := HO.out; rw [← hl] at this; rw [spK_full] at this; rw [← hl]; exact this, hb⟩

/-- The block b holds thirty-two truths, T's. -/
def Tkn (w : World) (b : Nat) (T : Nat → Bool) : Prop := w.heap[b]? = some (.cells ((List.range 32).map fun k => Value.bool (T k)).toArray 76 (0, 0))
theorem Tkn.lt {w : World} {b : Nat} {T : Nat → Bool} (h : Tkn w b T) : b < w.heap.size := (Array.getElem?_eq_some_iff.1 h).1
theorem Tkn.kept {w w' : World} {b : Nat} {T : Nat → Bool} (h : Tkn w b T) (hb : Below w.heap.size w w') : Tkn w' b T := (hb.block b h.lt).trans h
theorem Tkn.cell {w : World} {b : Nat} {T : Nat → Bool} (h : Tkn w b T) {k : Nat} (hk : k < 32) : w.cell? ⟨b, k, none⟩ = some (.bool (T k)) := by
  rw [cell_of_row w b k _ 76 (0, 0) h]
  simp [hk]
theorem Tkn.free {w : World} {b : Nat} {T : Nat → Bool} (h : Tkn w b T) (k : Nat) : w.frozen? ⟨b, k, none⟩ = false := frozen_of_row w b k _ 76 h
theorem Tkn.set {w : World} {b : Nat} {T G : Nat → Bool} (h : Tkn w b T) {k : Nat} (hk : k < 32) (h1 : G k = true) (h2 : ∀ j, j < 32 → j ≠ k → G j = T j) : Tkn (w.setCell ⟨b, k, none⟩ (.bool true)) b G := by
  unfold Tkn
  rw [heap_setCell_same w b k _ 76 _ h]
  congr 2
  apply Array.ext'
  rw [Array.toList_setIfInBounds]
  apply List.ext_getElem?
  intro i
  rw [List.getElem?_set]
  by_cases e : k = i
  · subst e
    rw [if_pos rfl, if_pos (by simp [hk])]
    simp [hk, h1]
  · rw [if_neg e]
    by_cases hi : i < 32
    · simp [hi, h2 i hi (fun x => e x.symm)]
    · simp [hi]
/-- Which slots the first k have taken. -/
def tkB (l : List Blk) (k x : Nat) : Bool := (l.take k).any fun s => decide (s.ix = (x : Int))
theorem tkB_zero (l : List Blk) (x : Nat) : tkB l 0 x = false := by simp [tkB]
theorem tkB_succ {l : List Blk} {k : Nat} (h : k < l.length) (x : Nat) : tkB l (k + 1) x = (tkB l k x || decide ((ba l k).ix = (x : Int))) := by simp [tkB, take_ba h]
theorem tkB_iff {l : List Blk} {k x : Nat} (h : k ≤ l.length) : tkB l k x = true ↔ ∃ i, i < k ∧ (ba l i).ix = (x : Int) := by
  induction k with
  | zero => simp [tkB_zero]
  | succ k ih =>
    rw [tkB_succ (by omega), Bool.or_eq_true, ih (by omega), decide_eq_true_eq]
    constructor
    · rintro (⟨i, hi, e⟩ | e)
      · exact ⟨i, by omega, e⟩
      · exact ⟨k, by omega, e⟩
    · rintro ⟨i, hi, e⟩
      by_cases c : i < k
      · exact .inl ⟨i, c, e⟩
      · obtain rfl : i = k := by omega
        exact .inr e
/-- The first k go together with their data. -/
structure HoldK (l : List Blk) (ds : List (List Int)) (k : Nat) : Prop where
  ixs : ∀ i, i < k → 0 ≤ (ba l i).ix ∧ (ba l i).ix < 32 ∧ ((da ds i).length : Int) ≤ ((ba l i).sz - 2) * 8
  one : ∀ i j, i < j → j < k → (ba l i).ix ≠ (ba l j).ix
theorem HoldK.next {l : List Blk} {ds : List (List Int)} {k m : Nat} (h : HoldK l ds k) (hk : k < l.length) (hm : (ba l k).ix = (m : Int)) (h32 : m < 32) (hd : ((da ds k).length : Int) ≤ ((ba l k).sz - 2) * 8) (ht : tkB l k m = false) : HoldK l ds (k + 1) := by
  refine ⟨fun i hi => ?_, fun i j hij hj => ?_⟩
  · by_cases c : i < k
    · exact h.ixs i c
    · obtain rfl : i = k := by omega
      exact ⟨by omega, by omega, hd⟩
  · by_cases c : j < k
    · exact h.one i j hij c
    · obtain rfl : j = k := by omega
      intro e
      rw [Bool.eq_false_iff] at ht
      exact ht ((tkB_iff (by omega)).2 ⟨i, hij, by rw [e, hm]⟩)
theorem tkn_zero (w : World) (l : List Blk) : Tkn (w.alloc (.cells #[.bool false, .bool false, .bool false, .bool false, .bool false, .bool false, .bool false, .bool false, .bool false, .bool false, .bool false, .bool false, .bool false, .bool false, .bool false, .bool false, .bool false, .bool false, .bool false, .bool false, .bool false, .bool false, .bool false, .bool false, .bool false, .bool false, .bool false, .bool false, .bool false, .bool false, .bool false, .bool false] 76)) w.heap.size (tkB l 0) := by
  have e : tkB l 0 = fun _ => false := funext (tkB_zero l)
  rw [e]
  exact heap_alloc_new w _
/-- It answers whether p holds. -/
def Answers (p : Prop) (e : Ending) : Prop := ∃ r : Bool, e = .returned (.bool r) ∧ (r = true ↔ p)
theorem ans_no {p : Prop} (h : ¬ p) : Answers p (.returned (.bool false)) := ⟨false, rfl, by simpa using h⟩
theorem ans_yes {p : Prop} (h : p) : Answers p (.returned (.bool true)) := ⟨true, rfl, by simpa using h⟩
theorem holds_bs (ao : Option Addr) (n cap : Nat) (l : List Blk) (bo : Option Addr) (m cap' : Nat) (A : Nat → Option Addr) (N C : Nat → Nat) (ds : List (List Int)) (w : World) (h : Bs w ao n cap l) (hd : Rd w bo m cap' A N C ds) (hn : n ≤ 100000) (hm : m ≤ 9223372036854775807) (hz : ∀ i, i < n → 4 ≤ (ba l i).sz ∧ (ba l i).sz ≤ 2048) :
    Calls Tryd.prog 27 #[.slice ao n cap, .slice bo m cap'] w fun e w' => Answers (HoldB l ds) e ∧ Below w.heap.size w w' := by
  have hl := h.len
  have hdl := hd.len
  by_cases hmn : m = n
  · subst hmn
    have HE : Hid (HoldB l ds ↔ HoldK l ds m) := hid ⟨fun h => ⟨fun i hi => h.ixs i (by omega), fun i j hij hj => h.one i j hij (by omega)⟩, fun h => ⟨by omega, fun i hi => h.ixs i (by omega), fun i j hij hj => h.one i j hij (by omega)⟩⟩
    have hmm : ((m : Int) != (m : Int)) = false := by simp
    have HT0 := hid (tkn_zero w l)
    have hbA : Below w.heap.size w (w.alloc (.cells #[.bool false, .bool false, .bool false, .bool false, .bool false, .bool false, .bool false, .bool false, .bool false, .bool false, .bool false, .bool false, .bool false, .bool false, .bool false, .bool false, .bool false, .bool false, .bool false, .bool false, .bool false, .bool false, .bool false, .bool false, .bool false, .bool false, .bool false, .bool false, .bool false, .bool false, .bool false, .bool false] 76)) := (Below.refl _ _).alloc (Nat.le_refl _) _
    go_enter Tryd.func27, Tryd.ntmps27
    go_wp2
    clear hmm
    go_loopw [15] (fun t wr => ∃ k : Nat, k ≤ m ∧ t = .int .i64 k ∧ Hid (HoldK l ds k) ∧ Hid (Tkn wr w.heap.size (tkB l k)) ∧ Below w.heap.size w wr) (fun t _ => m - (intOf t).toNat)
    case atStart => exact ⟨0, Nat.zero_le _, rfl, hid ⟨fun i hi => absurd hi (by omega), fun i j _ hj => absurd hj (by omega)⟩, HT0, hbA⟩
    case round =>
      clear hbA HT0
      obtain ⟨k, hk, rfl, HK, HT, hb⟩ := hrel
      by_cases hlt : k < m
      · obtain ⟨b, off, rfl, hbl, _⟩ := h.here (by omega)
        obtain ⟨b2, off2, rfl, hbl2, _⟩ := hd.here (by omega)
        obtain ⟨c0, c1, c2⟩ := h.at hb hlt
        have c3 := hd.cell hb hlt
        have hrow := (hd.row k hlt).len
        have hroom := (hd.row k hlt).room
        have hcap := hd.caps k hlt
        have hki : (k : Int) < (m : Int) := by omega
        have hwg : w.heap.size < wr.heap.size := HT.out.lt
        obtain ⟨z0, z1⟩ := hz k hlt
        have hb2 : Below wr.heap.size wr (wr.alloc (ba l k).obj) := (Below.refl _ _).alloc (Nat.le_refl _) _
        have hne : b2 ≠ wr.heap.size := by have := hb.size; omega
        have c3' := hd.cell (next hb hb2) hlt
        have c4 : (wr.alloc (ba l k).obj).cell? ⟨wr.heap.size, 1, none⟩ = some (.int .i64 (ba l k).sz) := (bxB_new wr (ba l k)).cells.2.1
        have hww : ¬ w.heap.size = wr.heap.size := by omega
        have no : ¬ (0 ≤ (ba l k).ix ∧ (ba l k).ix < 32 ∧ ((da ds k).length : Int) ≤ ((ba l k).sz - 2) * 8) → Hid (¬ HoldB l ds) := fun hc => hid (fun hh => hc (hh.ixs k (by omega)))
        have no2 : ∀ x : Nat, (ba l k).ix = (x : Int) → tkB l k x = true → Hid (¬ HoldB l ds) := fun x hx ht => hid (fun hh => by
          obtain ⟨i, hi, e⟩ := (tkB_iff (by omega)).1 ht
          exact hh.one i k hi (by omega) (by rw [e, hx]))
        have go : ∀ x : Nat, (ba l k).ix = (x : Int) → x < 32 → ((da ds k).length : Int) ≤ ((ba l k).sz - 2) * 8 → tkB l k x = false → Hid (HoldK l ds (k + 1)) := fun x hx h32 hd' ht => hid (HK.out.next (by omega) hx h32 hd' ht)
        have TS : ∀ x : Nat, (ba l k).ix = (x : Int) → ∀ G : Nat → Bool, (∀ j, G j = (tkB l k j || decide ((x : Int) = (j : Int)))) → Hid (G = tkB l (k + 1)) := fun x hx G hG => hid (funext fun j => by rw [hG, tkB_succ (by omega), hx])
        rw [hrow] at no go
        clear HK
        generalize ba l k = s at *
        generalize A k = ak at *
        generalize N k = nk at *
        generalize C k = ck at *
        obtain ⟨p, z, x⟩ := s
        simp only [Blk.obj] at *
        have w1 : IntKind.i64.wrap (z - 2) = z - 2 := IntWalk.i64_in _ ⟨by omega, by omega⟩
        have w2 : IntKind.i64.wrap ((z - 2) * 8) = (z - 2) * 8 := IntWalk.i64_in _ ⟨by omega, by omega⟩
        by_cases hx0 : 0 ≤ x
        · obtain ⟨x, rfl⟩ := Int.eq_ofNat_of_zero_le hx0
          by_cases hx1 : x < 32
          · have hx2 : (x : Int) < 32 := by omega
            have hx3 : ¬ ((32 : Int) ≤ (x : Int)) := by omega
            have q0 := (HT.out.kept hb2).cell hx1
            have q00 := HT.out.cell hx1
            have q1 := HT.out.free x
            cases ht : tkB l k x with
            | true =>
              have HNO := no2 x rfl ht
              rw [ht] at q0 q00
              clear no no2 go TS HT
              go_wp2
              go_ret
              exact ⟨ans_no HNO.out, (hb.trans (hb2.mono hb.size))⟩
            | false =>
              rw [ht] at q0 q00
              by_cases hdd : (nk : Int) ≤ (z - 2) * 8
              · have HGO := go x rfl hx1 hdd ht
                have hd1 : decide ((z - 2) * 8 < (nk : Int)) = false := decide_eq_false (by omega)
                have HTS : Hid (∀ nq, Tkn (((wr.alloc (.cells #[.int .i64 p, .int .i64 z, .int .i64 (x : Int)] 43)).drewN nq).setCell ⟨w.heap.size, x, none⟩ (.bool true)) w.heap.size (tkB l (k + 1))) := hid (fun nq => by
                  refine Tkn.set (HT.out.kept (below_drewN hb2 nq)) hx1 ?_ ?_
                  · rw [← (TS x rfl _ (fun _ => rfl)).out]; simp
                  · intro j _ hj
                    rw [← (TS x rfl _ (fun _ => rfl)).out]
                    simp; omega)
                clear no no2 go TS
                go_wp2
                go_quiet (fail)
                go_wp2
                go_roundw
                case rel => exact ⟨k + 1, by omega, by go_num, HGO, hid (HTS.out _), (below_drewN (next hb hb2) _).setCell (Nat.le_refl _) _⟩
                case measure => simp [intOf]; omega
              · have HNO := no (by omega)
                have hd1 : decide ((z - 2) * 8 < (nk : Int)) = true := decide_eq_true (by omega)
                clear no no2 go TS HT
                go_wp2
                go_quiet (fail)
                go_wp2
                go_ret
                exact ⟨ans_no HNO.out, below_drewN (hb.trans (hb2.mono hb.size)) _⟩
          · have hx2 : (32 : Int) ≤ (x : Int) := by omega
            have HNO := no (by omega)
            clear no no2 go TS HT
            go_wp2
            go_ret
            exact ⟨ans_no HNO.out, (hb.trans (hb2.mono hb.size))⟩
        · have hx2 : x < 0 := by omega
          have HNO := no (by omega)
          clear no no2 go TS HT
          go_wp2
          go_ret
          exact ⟨ans_no HNO.out, (hb.trans (hb2.mono hb.size))⟩
      · obtain rfl : k = m := by omega
        have hki : ¬ ((k : Int) < (k : Int)) := by omega
        go_wp2
        go_ret
        exact ⟨ans_yes (HE.out.2 HK.out), hb⟩
  · have hmn' : ((m : Int) != (n : Int)) = true := by simp; omega
    have HNO : Hid (¬ HoldB l ds) := hid (fun hh => hmn (by have := hh.len; omega))
    go_enter Tryd.func27, Tryd.ntmps27
    go_wp2
    go_ret
    exact ⟨ans_no HNO.out, Below.refl _ _⟩
end Go.Proofs.YtclkooaepfedaaaDoor
