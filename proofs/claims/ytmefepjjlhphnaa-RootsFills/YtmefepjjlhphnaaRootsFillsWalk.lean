/- RootsFills: the walk. -/
import Derived.Test.YtmefepjjlhphnaaSmallRoot
import Derived.Lib.Strings
namespace Go.Proofs.Ytmefepjjlhphnaa
set_option maxRecDepth 100000
open Go.RowKit
set_option linter.unusedVariables false
set_option linter.unusedSimpArgs false
set_option maxRecDepth 100000

/-- The text of so many letters a. -/
def aN (k : Nat) : ByteArray := ⟨(List.replicate k 97).toArray⟩
theorem aN_zero : aN 0 = ⟨#[]⟩ := rfl
theorem aN_succ (k : Nat) : aN k ++ (⟨#[97]⟩ : ByteArray) = aN (k + 1) := by
  apply bytes_inj
  rw [ByteArray.data_append, Array.toList_append]
  simp [aN, List.replicate_succ']
theorem aN_size (k : Nat) : (aN k).size = k := by simp [aN, ByteArray.size]
/-- So many have names. -/
def flL (n i : Nat) : List Rt := (List.range n).map fun j => if j < i then ⟨aN (j + 1), j, 0⟩ else Rt.z
theorem flL_zero (n : Nat) : flL n 0 = List.replicate n Rt.z := by
  unfold flL
  apply List.ext_getElem?
  intro i
  simp [List.getElem?_range, List.getElem?_replicate]
  by_cases h : i < n <;> simp [h]
def flX (n i : Nat) : Prop := stE (flL n i) (aN (i + 1)) i 0 = 0 ∧ stL (flL n i) (aN (i + 1)) i 0 = flL n (i + 1)
instance (n i : Nat) : Decidable (flX n i) := by unfold flX; infer_instance
theorem fl_step2 : ∀ i, i < 2 → flX 2 i := by decide
theorem fl_step4 : ∀ i, i < 4 → flX 4 i := by decide
theorem fl_step6 : ∀ i, i < 6 → flX 6 i := by decide
theorem fl_step8 : ∀ i, i < 8 → flX 8 i := by decide
def flE (n : Nat) : Prop := RightR (flL n n) ∧ plO (flL n n) tA = some 0 ∧ stE (flL n n) tB 0 0 = 9 ∧ hvE (flL n n) tA = 0 ∧ stE (drL (flL n n) tA) tB 0 1 = 0 ∧ hvE (stL (drL (flL n n) tA) tB 0 1) tB = 0 ∧ gtI (stL (drL (flL n n) tA) tB 0 1) tB = 0 ∧ gtG (stL (drL (flL n n) tA) tB 0 1) tB = 1
instance (n : Nat) : Decidable (flE n) := by unfold flE; infer_instance
theorem fl_end2 : flE 2 := by decide
theorem fl_end4 : flE 4 := by decide
theorem fl_end6 : flE 6 := by decide
theorem fl_end8 : flE 8 := by decide
theorem fl_all {n : Nat} (h : SizR (n : Int)) : (∀ i, i < n → flX n i) ∧ flE n := by
  obtain ⟨h1, h2, h3⟩ := h
  have : n = 2 ∨ n = 4 ∨ n = 6 ∨ n = 8 := by omega
  rcases this with rfl | rfl | rfl | rfl
  · exact ⟨fl_step2, fl_end2⟩
  · exact ⟨fl_step4, fl_end4⟩
  · exact ⟨fl_step6, fl_end6⟩
  · exact ⟨fl_step8, fl_end8⟩
theorem flL_length (n i : Nat) : (flL n i).length = n := by simp [flL]
set_option maxHeartbeats 4000000 in
theorem rootsFills_walk (w : World) (n : Int) (hn : (Lit.int .i64 n).wf = true) (I G : Int) :
    Calls Try.prog 6 #[.int .i64 n, .agg #[.int .i64 I, .int .i64 G]] w fun e w' => e = .returned (.bool true) ∧ Below w.heap.size w w' := by
  have bX : Below w.heap.size w (w.alloc (.cells #[.int .i64 I, .int .i64 G] 29)) := (Below.refl _ w).alloc (Nat.le_refl _) _
  have xX := bxR_new w I G
  clear hn
  by_cases hs : SizR n
  · have h1 := hs.1
    have h2 := hs.2.1
    obtain ⟨m, rfl⟩ := Int.eq_ofNat_of_zero_le (show 0 ≤ n by omega)
    obtain ⟨HX, hR, hp, e9, e0, f0, g0, gI, gG⟩ := fl_all hs
    have HX := hid HX
    have cN : ∀ wr, Calls Try.prog 9 #[.int .i64 (m : Int)] wr fun e w' => ∃ ao c, e = .returned (.tuple #[.slice ao m c, .int .i64 0]) ∧ OwR wr.heap.size w' ao m c (flL m 0) ∧ Below wr.heap.size wr w' := fun wr => (newR_any m wr).mono (by
      rintro e w' ⟨ao, k, c, rfl, ho, hb⟩
      rw [(nr_t hs).2, Int.toNat_natCast, ← flL_zero] at ho
      obtain rfl : m = k := by rw [← ho.len, flL_length]
      exact ⟨ao, c, by rw [(nr_t hs).1], ho, hb⟩)
    have hm : m ≤ 9223372036854775807 := by omega
    have cS : ∀ i a c wr, i < m → Rs wr a m c (flL m i) → Calls Try.prog 16 #[.slice a m c, .string (aN (i + 1)), .agg #[.int .i64 (i : Nat), .int .i64 0]] wr fun e w' => ∃ bo c, e = .returned (.tuple #[.slice bo m c, .int .i64 0]) ∧ OwR wr.heap.size w' bo m c (flL m (i + 1)) ∧ Below wr.heap.size wr w' := fun i a c wr hi hr => (set_rs a m c _ (aN (i + 1)) i 0 wr hr hm (by rw [aN_size]; omega)).mono (by
      rintro e w' ⟨ao, k, c, rfl, ho, hb⟩
      rw [(HX.out i hi).2] at ho
      obtain rfl : m = k := by rw [← ho.len, flL_length]
      exact ⟨ao, c, by rw [(HX.out i hi).1], ho, hb⟩)
    have cB : ∀ a c wr, Rs wr a m c (flL m m) → Calls Try.prog 16 #[.slice a m c, .string ⟨#[98]⟩, .agg #[.int .i64 0, .int .i64 0]] wr fun e w' => ∃ bo k c, e = .returned (.tuple #[.slice bo k c, .int .i64 9]) ∧ Below wr.heap.size wr w' := fun a c wr hr => (set_rs a m c _ tB 0 0 wr hr hm (by decide)).mono (by
      rintro e w' ⟨ao, k, c, rfl, ho, hb⟩
      exact ⟨ao, k, c, by rw [e9], hb⟩)
    have hv := hvE_zero e0
    have cD : ∀ a c wr, Rs wr a m c (flL m m) → Calls Try.prog 17 #[.slice a m c, .string ⟨#[97]⟩] wr fun e w' => ∃ bo c, e = .returned (.tuple #[.slice bo m c, .int .i64 0]) ∧ OwR wr.heap.size w' bo m c (drL (flL m m) tA) ∧ Below wr.heap.size wr w' := fun a c wr hr => (drop_rs a m c _ tA wr hr hm (by decide)).mono (by
      rintro e w' ⟨ao, k, c, rfl, ho, hb⟩
      obtain rfl : m = k := by rw [← ho.len, dr_t hv, List.length_set, flL_length]
      exact ⟨ao, c, by rw [e0], ho, hb⟩)
    have hso := stE_zero f0
    have hlen2 : (stL (drL (flL m m) tA) tB 0 1).length = m := by
      obtain ⟨k, _, _, _, _, hl, _⟩ := set_keeps hso
      rw [hl, dr_t hv, List.length_set, flL_length]
    have cC : ∀ a c wr, Rs wr a m c (drL (flL m m) tA) → Calls Try.prog 16 #[.slice a m c, .string ⟨#[98]⟩, .agg #[.int .i64 0, .int .i64 1]] wr fun e w' => ∃ bo c, e = .returned (.tuple #[.slice bo m c, .int .i64 0]) ∧ OwR wr.heap.size w' bo m c (stL (drL (flL m m) tA) tB 0 1) ∧ Below wr.heap.size wr w' := fun a c wr hr => (set_rs a m c _ tB 0 1 wr hr hm (by decide)).mono (by
      rintro e w' ⟨ao, k, c, rfl, ho, hb⟩
      obtain rfl : m = k := by rw [← ho.len, hlen2]
      exact ⟨ao, c, by rw [f0], ho, hb⟩)
    have cG : ∀ a c wr, Rs wr a m c (stL (drL (flL m m) tA) tB 0 1) → Calls Try.prog 11 #[.slice a m c, .string ⟨#[98]⟩] wr fun e w' => e = .returned (.tuple #[.agg #[.int .i64 0, .int .i64 1], .int .i64 0]) ∧ Below wr.heap.size wr w' := fun a c wr hr => by
      have := get_rs a m c _ tB wr hr hm (by decide)
      rwa [g0, gI, gG] at this
    have hA : nameB tA.data.toList = true := by decide
    have hst : stO (flL m m) tA = some 0 := by unfold stO; rw [(pl_t hp).2, if_pos rfl, hp]
    have hE : stE (flL m m) tA I G = 0 ∨ stE (flL m m) tA I G = 1 := by
      by_cases hh : RightH I G
      · exact Or.inl (st_t hR hA hh hst).1
      · exact Or.inr (st_arg hR hA hh).1
    have cE : ∀ a c wr, Rs wr a m c (flL m m) → Calls Try.prog 16 #[.slice a m c, .string ⟨#[97]⟩, .agg #[.int .i64 I, .int .i64 G]] wr fun e w' => ∃ bo k c, e = .returned (.tuple #[.slice bo k c, .int .i64 (stE (flL m m) tA I G)]) ∧ Below wr.heap.size wr w' := fun a c wr hr => (set_rs a m c _ tA I G wr hr hm (by decide)).mono (by
      rintro e w' ⟨ao, k, c, rfl, ho, hb⟩
      exact ⟨ao, k, c, rfl, hb⟩)
    have a0 := aN_zero
    generalize stE (flL m m) tA I G = S at *
    generalize stL (drL (flL m m) tA) tB 0 1 = L2 at *
    generalize drL (flL m m) tA = L1 at *
    clear hs hR hp e9 e0 f0 g0 gI gG hv hso hlen2 hst
    go_enter Try.func6, Try.ntmps6
    go_wp2_with (first
      | (go_at_call 7; with_reducible refine (smallR_any _).mono ?_; rintro e w1 ⟨rfl, hb1⟩; have b1 := next bX hb1; have x1 := xX.kept hb1)
      | (go_at_call 9; with_reducible refine (cN _).mono ?_; rintro e w2 ⟨a2, k2, rfl, o2, hb2⟩; have b2 := next b1 hb2; have x2 := x1.kept hb2))
    go_loopw [6, 8, 9] (fun s6 s8 s9 wr => ∃ (i : Nat) (a : Option Addr) (c : Nat), i ≤ m ∧ s6 = .slice a m c ∧ s8 = .string (aN i) ∧ s9 = .int .i64 i ∧ OwR w.heap.size wr a m c (flL m i) ∧ Below w.heap.size w wr ∧ BxR wr w.heap.size I G) (fun _ _ s9 _ => m - (intOf s9).toNat)
    case atStart => exact ⟨0, a2, k2, Nat.zero_le _, rfl, by rw [a0], rfl, o2.mono b1.size, b2, x2⟩
    case round =>
      obtain ⟨i, a, c, hi, rfl, rfl, rfl, ho, hb, hx⟩ := hrel
      clear o2 b2 x2 hb1 hb2 b1 x1 bX xX
      have hwz : w.heap.size < wr.heap.size := (Array.getElem?_eq_some_iff.1 hx).1
      by_cases hlt : i < m
      · have hii : (i : Int) < (m : Int) := by omega
        have hadd := aN_succ i
        have hsz : (aN i).size ≤ 8 := by rw [aN_size]; omega
        have cS' := cS i a c wr hlt ho.rs
        clear cN cS cB cD cC cG cE HX a0
        go_wp2_with (first
          | (go_at_call 16; with_reducible refine cS'.mono ?_; rintro e w3 ⟨a3, k3, rfl, o3, hb3⟩))
        go_roundw
        case rel => exact ⟨i + 1, a3, k3, by omega, rfl, rfl, by go_num, o3.mono (by omega), next hb hb3, hx.kept hb3⟩
        case measure => simp [intOf]; omega
      · obtain rfl : i = m := by omega
        have hii : ¬ ((i : Int) < (i : Int)) := by omega
        have o' := ho
        clear cN cS HX a0
        rcases hE with rfl | rfl
        all_goals
          go_wp2_with (first
            | (go_at_call 16; with_reducible refine (cB a c wr ho.rs).mono ?_; rintro e w3 ⟨a3, m3, k3, rfl, hb3⟩; have b3 := next hb hb3; have o3 := ho.below hb3; have x3 := hx.kept hb3)
            | (go_at_call 17; with_reducible refine (cD a c w3 o3.rs).mono ?_; rintro e w4 ⟨a4, k4, rfl, p4, hb4⟩; have b4 := next b3 hb4; have o4 := o3.below hb4; have x4 := x3.kept hb4)
            | (go_at_call 16; with_reducible refine (cC a4 k4 w4 p4.rs).mono ?_; rintro e w5 ⟨a5, k5, rfl, p5, hb5⟩; have b5 := next b4 hb5; have o5 := o4.below hb5; have x5 := x4.kept hb5)
            | (go_at_call 11; with_reducible refine (cG a5 k5 w5 p5.rs).mono ?_; rintro e w6 ⟨rfl, hb6⟩; have b6 := nextR (next b5 hb6) (.cells #[.int .i64 0, .int .i64 1] 29); have o6 := (o5.below hb6).below (below_moreR w6 (.cells #[.int .i64 0, .int .i64 1] 29)); have x6 := (x5.kept hb6).more (.cells #[.int .i64 0, .int .i64 1] 29); have y6 := bxR_new w6 0 1; obtain ⟨u0, u1, _, _⟩ := x6.cells)
            | (go_at_call 16; with_reducible refine (cE a c _ o6.rs).mono ?_; rintro e w7 ⟨a7, m7, k7, rfl, hb7⟩; have b7 := next b6 hb7; obtain ⟨v0, v1, _, _⟩ := (y6.kept hb7).cells))
          go_ret
          exact ⟨rfl, b7⟩
  · have cN : ∀ wr, Calls Try.prog 9 #[.int .i64 n] wr fun e w' => ∃ ao c, e = .returned (.tuple #[.slice ao 0 c, .int .i64 1]) ∧ Below wr.heap.size wr w' := fun wr => (newR_any n wr).mono (by
      rintro e w' ⟨ao, k, c, rfl, ho, hb⟩
      rw [(nr_f hs).2] at ho
      obtain rfl : 0 = k := ho.len
      exact ⟨ao, c, by rw [(nr_f hs).1], hb⟩)
    clear hs
    go_enter Try.func6, Try.ntmps6
    go_wp2_with (first
      | (go_at_call 7; with_reducible refine (smallR_any _).mono ?_; rintro e w1 ⟨rfl, hb1⟩; have b1 := next bX hb1)
      | (go_at_call 9; with_reducible refine (cN _).mono ?_; rintro e w2 ⟨a2, k2, rfl, hb2⟩; have b2 := next b1 hb2))
    go_ret
    exact ⟨rfl, b2⟩
end Go.Proofs.Ytmefepjjlhphnaa
