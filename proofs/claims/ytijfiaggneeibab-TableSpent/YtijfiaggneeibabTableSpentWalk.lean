/- joistlaw08.TableSpent walked: it returns true. -/
import Derived.Test.YtijfiaggneeibabSmallTab
namespace Go.Proofs.Ytijfiaggneeibab
set_option maxRecDepth 100000
open Go.RowKit
set_option linter.unusedVariables false
set_option linter.unusedSimpArgs false
set_option maxRecDepth 100000

def inB (k : Nat) (r : List Nat) : Bool := decide (k ∈ r)
theorem inB_nil (k : Nat) : inB k [] = false := by simp [inB]
theorem take_next (r : List Nat) (j : Nat) (h : j < r.length) : r.take (j + 1) = r.take j ++ [r.getD j 0] := by
  rw [List.take_succ_eq_append_getElem h]; simp [List.getD, List.getElem?_eq_getElem h]
theorem inB_next (k : Nat) (r : List Nat) (j : Nat) (h : j < r.length) : inB k (r.take (j + 1)) = (inB k (r.take j) || ((r.getD j 0 : Nat) : Int) == (k : Int)) := by
  rw [take_next r j h, Bool.eq_iff_iff]
  simp only [inB, List.mem_append, List.mem_singleton, decide_eq_true_eq, Bool.or_eq_true, beq_iff_eq]
  rw [Int.ofNat_inj]
  constructor
  · rintro (h | h)
    · exact Or.inl h
    · exact Or.inr h.symm
  · rintro (h | h)
    · exact Or.inl h
    · exact Or.inr h.symm
theorem nI_at (r : List Nat) (j : Nat) (h : j < r.length) : (nI r).getD j 0 = ((r.getD j 0 : Nat) : Int) := by simp [nI, List.getD, List.getElem?_eq_getElem h]
/-- A freed slot is open again just if its generations have not come to their end. -/
theorem spent_in {l : List Slt} {i : Nat} (hr : RightT l) (hi : i < l.length) : inB i (chT (l.set i (frS (sg l i)))) = decide ((sg l i).gen < 65534) := by
  rw [Bool.eq_iff_iff]
  simp only [inB, decide_eq_true_eq]
  unfold chT
  rw [mem_chN, List.length_set, sg_set_same l i _ hi, openB_iff]
  have hg := (hr.may hi).1
  simp only [OpenS, frS]
  constructor
  · rintro ⟨_, _, h⟩; omega
  · intro h; exact ⟨hi, trivial, by omega⟩
set_option maxHeartbeats 1000000 in
theorem tableSpent_walk (W : World) (ao : Option Addr) (n cap : Nat) (l : List Slt) (h : Tb W ao n cap l) (hc : cap * 32 ≤ 140737488351232) (k : Int) (hk : (Lit.int .i64 k).wf = true) :
    Calls Try.prog 3 #[.slice ao n cap, .int .i64 k] W fun e W' => e = .returned (.bool true) ∧ Below W.heap.size W W' := by
  have hl := h.len
  have hroom := h.room
  have hcap : cap ≤ 9223372036854775807 := by omega
  by_cases hf : FrOk l k
  · obtain ⟨hr, h0, h1, h2⟩ := hf
    obtain ⟨e1, e2⟩ := fr_t (l := l) (k := k) ⟨hr, h0, h1, h2⟩
    obtain ⟨i, rfl⟩ := Int.eq_ofNat_of_zero_le h0
    have hi : i < n := by omega
    obtain ⟨b, off, rfl, hbl, _⟩ := h.here (by omega)
    have hlen := hr.len
    have hm := hr.may (show i < l.length by omega)
    simp only [Int.toNat_natCast] at e1 e2 h2
    obtain ⟨M, hM⟩ : ∃ M, l.set i (frS (sg l i)) = M := ⟨_, rfl⟩
    have cF : ∀ w, Below W.heap.size W w → Calls Try.prog 5 #[.slice (some ⟨b, off, none⟩) n cap, .int .i64 i] w fun e w' => ∃ g c, e = .returned (.tuple #[.slice (some ⟨g, 0, none⟩) n c, .int .i64 0]) ∧ OwT w.heap.size w' (some ⟨g, 0, none⟩) n c M ∧ Below w.heap.size w w' := fun w hb => by
      refine (free_tb _ n cap l i w (h.below hb) hcap).mono ?_
      rintro e w' ⟨bo, m, c, rfl, ho, hb⟩
      rw [e2, hM] at ho
      rw [e1]
      obtain rfl : n = m := by rw [← ho.len, ← hM, List.length_set, hl]
      obtain ⟨g, rfl, _⟩ := ho.shape (by omega)
      exact ⟨g, c, rfl, ho, hb⟩
    have HI : Hid (inB i (chT M) = decide ((sg l i).gen < 65534)) := hid (by rw [← hM]; exact spent_in hr (by omega))
    have HS : Hid (sg M i = frS (sg l i)) := hid (by rw [← hM]; exact sg_set_same l i _ (by omega))
    have Hat : Hid (∀ w, Below W.heap.size W w → w.cell? ⟨b, off + i * 5, none⟩ = some (.int .i64 (sg l i).gen)) := fun w hb => (h.at hb hi).c0
    obtain ⟨g, hg⟩ : ∃ g, (sg l i).gen = g := ⟨_, rfl⟩
    have hgb : 0 ≤ g ∧ g ≤ 65535 := by rw [← hg]; exact hm.1
    have hin : (i : Int) < (n : Int) := by omega
    rw [hg] at HI Hat
    have HT : Hid (∀ w a c, Tb w a n c M → Calls Try.prog 6 #[.slice a n c] w fun e w' => ∃ bo m c, e = .returned (.slice bo m c) ∧ Own .i64 3 w.heap.size w' bo m c (nI (chT M)) ∧ Below w.heap.size w w') := fun w a c ht => chain_tb a n c M w ht (by omega)
    clear h hr h0 h1 h2 e1 e2 hlen hm hM
    go_enter Try.func3, Try.ntmps3
    go_wp2_with (first
      | (go_at_call 4; with_reducible refine (small_any _).mono ?_; rintro e w1 ⟨rfl, hb1⟩)
      | (go_at_call 5; with_reducible refine (cF _ hb1).mono ?_; rintro e w2 ⟨g2, k2, rfl, ho2, hb2⟩; have b2 := next hb1 hb2; have c0 := Hat.out w2 b2)
      | (go_at_call 6; with_reducible refine (HT.out w2 _ _ ho2.tb).mono ?_; rintro e w3 ⟨a3, m3, k3, rfl, ho3, hb3⟩; have b3 := next b2 hb3; have d0 := Hat.out w3 b3; have s3 := (ho2.below hb3).tb.at (Below.refl _ _) hi))
    have lm : (chT M).length = m3 := by have := ho3.len; rwa [nI_length] at this
    have hm3 : m3 ≤ 9223372036854775807 := by have := ho3.cap_le; omega
    rw [HS.out] at s3
    obtain ⟨q0, q1, q2, q3, q4⟩ := s3
    simp only [frS, hg, Nat.zero_add] at q0 q1 q2 q3 q4
    clear hg HS
    go_loop [10, 11] (fun s10 s11 => ∃ j : Nat, j ≤ m3 ∧ s11 = .int .i64 j ∧ s10 = .bool (inB i ((chT M).take j))) (fun _ s11 => m3 - (intOf s11).toNat)
    case atStart => exact ⟨0, Nat.zero_le _, rfl, by simp [inB]⟩
    case round =>
      obtain ⟨j, hj, rfl, rfl⟩ := hrel
      by_cases hlt : j < m3
      · obtain ⟨g3, rfl, _⟩ : ∃ g3, a3 = some ⟨g3, 0, none⟩ ∧ True := by
          obtain ⟨g3, c, e⟩ := own_shape ho3.row (by omega)
          simp only [Value.slice.injEq] at e
          exact ⟨g3, e.1, trivial⟩
        obtain ⟨x, hx⟩ : ∃ x, (chT M).getD j 0 = x := ⟨_, rfl⟩
        have cx := ho3.at j hlt (nI_at _ _ (by omega))
        have HN : Hid (inB i ((chT M).take (j + 1)) = (inB i ((chT M).take j) || (x : Int) == (i : Int))) := hid (by rw [inB_next _ _ _ (by omega), hx])
        rw [hx] at cx
        have hji : (j : Int) < (m3 : Int) := by omega
        cases hB : inB i ((chT M).take j) with
        | true =>
          rw [hB] at HN
          go_wp2
          go_round
          case rel => exact ⟨j + 1, by omega, by go_num, by rw [HN.out]; rfl⟩
          case measure => simp [intOf]; omega
        | false =>
          rw [hB] at HN
          go_wp2
          go_round
          case rel => exact ⟨j + 1, by omega, by go_num, by rw [HN.out]; rfl⟩
          case measure => simp [intOf]; omega
      · obtain rfl : j = m3 := by omega
        rw [List.take_of_length_le (by omega), HI.out]
        by_cases hg3 : g < 65534
        · have u1 : decide (g < 65534) = true := by simpa using hg3
          have u2 : decide (65534 ≤ g) = false := by simp; omega
          rw [u1]
          clear HI
          go_wp2
          go_quiet (fail)
          go_wp2
          go_ret
          exact ⟨rfl, below_drewN b3 _⟩
        · have u1 : decide (g < 65534) = false := by simpa using hg3
          have u2 : decide (65534 ≤ g) = true := by simp; omega
          rw [u1]
          clear HI
          go_wp2
          go_quiet (fail)
          go_wp2
          go_ret
          exact ⟨rfl, below_drewN b3 _⟩
  · obtain ⟨e1, e2⟩ := fr_f hf
    have cF : ∀ w, Below W.heap.size W w → Calls Try.prog 5 #[.slice ao n cap, .int .i64 k] w fun e w' => ∃ bo c, e = .returned (.tuple #[.slice bo 0 c, .int .i64 1]) ∧ Below w.heap.size w w' := fun w hb => by
      refine (free_tb _ n cap l k w (h.below hb) hcap).mono ?_
      rintro e w' ⟨bo, m, c, rfl, ho, hb⟩
      rw [e2] at ho
      rw [e1]
      obtain rfl : 0 = m := ho.len
      exact ⟨bo, c, rfl, hb⟩
    clear h hf e1 e2
    go_enter Try.func3, Try.ntmps3
    go_wp2_with (first
      | (go_at_call 4; with_reducible refine (small_any _).mono ?_; rintro e w1 ⟨rfl, hb1⟩)
      | (go_at_call 5; with_reducible refine (cF _ hb1).mono ?_; rintro e w2 ⟨g2, k2, rfl, hb2⟩))
    go_ret
    exact ⟨rfl, next hb1 hb2⟩
end Go.Proofs.Ytijfiaggneeibab
