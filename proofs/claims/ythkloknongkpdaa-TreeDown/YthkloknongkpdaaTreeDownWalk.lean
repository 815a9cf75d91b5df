/- 'TreeDown' walked: from the root down to what Find tells. -/
import Derived.Test.YthkloknongkpdaaTreDown
namespace Go.Proofs.Ythkloknongkpdaa
set_option maxRecDepth 100000
open Go.RowKit
set_option linter.unusedVariables false
set_option linter.unusedSimpArgs false
set_option maxRecDepth 100000

theorem down_far (w : World) (P room : Int) (ao : Option Addr) (n cap : Nat) (p : Int) (h3 : 300 < (n : Int)) :
    Calls Try.prog 7 #[.int .i64 P, .int .i64 room, .slice ao n cap, .int .i64 p] w fun e w' => e = .returned (.bool true) ∧ Below w.heap.size w w' := by
  have c0 := smallX_any w
  go_enter Try.func7, Try.ntmps7
  go_wp2_with (first
    | (go_at_call 9; with_reducible refine c0.mono ?_; rintro e w1 ⟨rfl, hb1⟩))
  go_ret
  exact ⟨rfl, hb1⟩
set_option maxHeartbeats 2000000 in
theorem down_out (w : World) (P room : Int) (ao : Option Addr) (n cap : Nat) (p : Int) (h3 : ¬ 300 < (n : Int)) (E xa xs xu : Int) (Z : List Int)
    (cW : ∀ w', Below w.heap.size w w' → Calls Try.prog 18 #[.int .i64 P, .int .i64 room, .slice ao n cap] w' fun e w'' => ∃ bo m c, e = .returned (.tuple #[.slice bo m c, .int .i64 E]) ∧ Own .u8 5 w'.heap.size w'' bo m c Z ∧ Below w'.heap.size w' w'')
    (cD : ∀ zo mz zc w', Sl .u8 w' zo mz zc Z → Calls Try.prog 23 #[.int .i64 P, .slice zo mz zc, .int .i64 p] w' fun e w'' => e = .returned (.tuple #[.agg #[.int .i64 xa, .int .i64 xs, .int .i64 xu], .bool false]) ∧ Below w'.heap.size w' w'')
    (hd : (E != 0) = true ∨ ((E != 0) = false ∧ p < 0) ∨ ((E != 0) = false ∧ ¬ p < 0 ∧ P ≤ p)) :
    Calls Try.prog 7 #[.int .i64 P, .int .i64 room, .slice ao n cap, .int .i64 p] w fun e w' => e = .returned (.bool true) ∧ Below w.heap.size w w' := by
  have c0 := smallX_any w
  rcases hd with d0 | ⟨d0, d1⟩ | ⟨d0, d1, d2⟩
  all_goals
    go_enter Try.func7, Try.ntmps7
    go_wp2_with (first
      | (go_at_call 9; with_reducible refine c0.mono ?_; rintro e w1 ⟨rfl, hb1⟩)
      | (go_at_call 18; with_reducible refine (cW _ hb1).mono ?_; rintro e w2 ⟨zo, mz, zc, rfl, hoz, hb2⟩; have b2 := next hb1 hb2)
      | (go_at_call 23; with_reducible refine (cD _ _ _ _ hoz.sl).mono ?_; rintro e w3 ⟨rfl, hb3⟩; have hb3a := nxA hb3 (.cells #[.int .i64 xa, .int .i64 xs, .int .i64 xu] 42); have b3 := next b2 hb3a))
    go_ret
    exact ⟨rfl, b3⟩
theorem treeDown_walk (w : World) (P : Int) (hP : (Lit.int .i64 P).wf = true) (room : Int) (hro : (Lit.int .i64 room).wf = true) (ao : Option Addr) (n cap : Nat) (l : List Blk) (h : Bs w ao n cap l) (hc : cap * 24 ≤ 140737488351232) (p : Int) (hp : (Lit.int .i64 p).wf = true) :
    Calls Try.prog 7 #[.int .i64 P, .int .i64 room, .slice ao n cap, .int .i64 p] w fun e w' => e = .returned (.bool true) ∧ Below w.heap.size w w' := by
  have hn : n ≤ 9223372036854775807 := by have := h.room; omega
  have hpg : Rg p := bounds_i64 hp
  by_cases h3 : 300 < (n : Int)
  · exact down_far w P room ao n cap p h3
  have cW := fun w' (hb : Below w.heap.size w w') => twrite_bs P room ao n cap l w' (h.below hb) hn
  have hZb : Bytes (wtL P room l) := by
    unfold wtL
    split
    · exact ofL_bytes _
    · intro z hz; cases hz
  have hZl : (wtL P room l).length ≤ 1664 := by
    by_cases c : RightX P l ∧ RoomX room l
    · rw [wt_len c.1 c.2]; have := c.2.2; omega
    · unfold wtL; rw [if_neg c]; exact Nat.zero_le _
  have cD : fdXB P (wtL P room l) p = false → ∀ zo mz zc w', Sl .u8 w' zo mz zc (wtL P room l) → Calls Try.prog 23 #[.int .i64 P, .slice zo mz zc, .int .i64 p] w' fun e w'' => e = .returned (.tuple #[.agg #[.int .i64 (fdX P (wtL P room l) p).pos, .int .i64 (fdX P (wtL P room l) p).sz, .int .i64 (fdX P (wtL P room l) p).ix], .bool false]) ∧ Below w'.heap.size w' w'' := fun hf zo mz zc w' hS => by
    have := hS.len
    have := tfind_sl P zo mz zc _ p hpg w' hS hZb (by omega)
    rwa [hf] at this
  by_cases hE : wtE P room l = 0
  · obtain ⟨hr, hm⟩ := wtE_0.1 hE
    by_cases hin : 0 ≤ p ∧ p < P
    · have h1 := (hm.nodes hr).2.1
      obtain ⟨k, rfl⟩ : ∃ k : Nat, room = (k : Int) := ⟨room.toNat, by omega⟩
      exact down_in w P k ao n cap l h hr hm p hpg hin.1 hin.2
    · have hf : fdXB P (wtL P room l) p = false := by
        unfold fdXB
        rw [(rd_wt hr hm).2, fn_out hr (by omega)]; rfl
      refine down_out w P room ao n cap p h3 _ _ _ _ _ cW (cD hf) (Or.inr ?_)
      rw [hE]
      by_cases c : p < 0
      · exact Or.inl ⟨rfl, c⟩
      · exact Or.inr ⟨rfl, c, by omega⟩
  · have hf : fdXB P (wtL P room l) p = false := by
      have e : wtL P room l = [] := by unfold wtL; exact if_neg (fun c => hE (wtE_0.2 c))
      unfold fdXB
      rw [e, (rx_f (P := P) (b := []) (fun c => by have := c.size; simp at this)).1]; rfl
    exact down_out w P room ao n cap p h3 _ _ _ _ _ cW (cD hf) (Or.inl (by simpa using hE))
end Go.Proofs.Ythkloknongkpdaa
