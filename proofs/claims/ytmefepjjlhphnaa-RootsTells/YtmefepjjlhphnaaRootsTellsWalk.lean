/- RootsTells: the walk. -/
import Derived.Test.YtmefepjjlhphnaaSmallRoot
import Derived.Test.YtmefepjjlhphnaaRefRootB
namespace Go.Proofs.Ytmefepjjlhphnaa
set_option maxRecDepth 100000
open Go.RowKit
set_option linter.unusedVariables false
set_option linter.unusedSimpArgs false
set_option maxRecDepth 100000

theorem nrL_len (n : Int) : (nrL n).length ≤ 8 := by
  by_cases h : SizR n
  · have h2 := h.2.1
    have h1 := h.1
    rw [(nr_t h).2, List.length_replicate]; omega
  · rw [(nr_f h).2]; simp
set_option maxHeartbeats 4000000 in
theorem rootsTells_walk (w : World) (ao : Option Addr) (n cap : Nat) (l : List Rt) (h : Rs w ao n cap l) (hreach : cap * 32 ≤ 140737488351232) (N : Int) (hN : (Lit.int .i64 N).wf = true) (x : ByteArray) (hx : x.size ≤ maxLen) :
    Calls Try.prog 3 #[.slice ao n cap, .int .i64 N, .string x] w fun e w' => e = .returned (.bool true) ∧ Below w.heap.size w w' := by
  have hl := h.len
  have hroom := h.room
  have hn : n ≤ 9223372036854775806 := by omega
  have hn' : n ≤ 9223372036854775807 := by omega
  have hx' : x.size ≤ 9223372036854775807 := by unfold maxLen at hx; omega
  clear hx hN
  have cF : ∀ wr, Below w.heap.size w wr → _ := fun wr hb => few_rs ao n cap l wr (h.below hb) hn
  by_cases hf : FewR l
  · rw [fewB_t hf] at cF
    by_cases hxs : x.size ≤ 1024
    · have hxs' : ¬ (1024 < (x.size : Int)) := by omega
      have cN : ∀ wr, Calls Try.prog 9 #[.int .i64 N] wr fun e w' => ∃ ao c, e = .returned (.tuple #[.slice ao (nrL N).length c, .int .i64 (nrE N)]) ∧ OwR wr.heap.size w' ao (nrL N).length c (nrL N) ∧ Below wr.heap.size wr w' := fun wr => (newR_any N wr).mono (by
        rintro e w' ⟨bo, k, c, rfl, ho, hb⟩
        obtain rfl : (nrL N).length = k := ho.len
        exact ⟨bo, c, rfl, ho, hb⟩)
      have cM : ∀ wr, Calls Try.prog 10 #[.int .i64 N] wr fun e w' => ∃ ao c, e = .returned (.tuple #[.slice ao (nrL N).length c, .int .i64 (nrE N)]) ∧ OwR wr.heap.size w' ao (nrL N).length c (nrL N) ∧ Below wr.heap.size wr w' := fun wr => (rnewR_any N wr).mono (by
        rintro e w' ⟨bo, k, c, rfl, ho, hb⟩
        obtain rfl : (nrL N).length = k := ho.len
        exact ⟨bo, c, rfl, ho, hb⟩)
      have hk := nrL_len N
      have cS : ∀ a c a' c' wr, Rs wr a (nrL N).length c (nrL N) → Rs wr a' (nrL N).length c' (nrL N) → Calls Try.prog 13 #[.slice a (nrL N).length c, .slice a' (nrL N).length c'] wr fun e w' => e = .returned (.bool true) ∧ Below wr.heap.size wr w' := fun a c a' c' wr h1 h2 => by
        have := rsame_rs a _ c _ a' _ c' _ wr h1 h2 (by omega) (by omega)
        rwa [samR_t rfl] at this
      have cG : ∀ wr, Below w.heap.size w wr → _ := fun wr hb => get_rs ao n cap l x wr (h.below hb) hn' hx'
      have cH : ∀ wr, Below w.heap.size w wr → _ := fun wr hb => rget_rs ao n cap l x wr (h.below hb) hn hx'
      have cR : ∀ wr, Below w.heap.size w wr → _ := fun wr hb => rightR_rs ao n cap l wr (h.below hb) hn'
      have cQ : ∀ wr, Below w.heap.size w wr → _ := fun wr hb => rrightR_rs ao n cap l wr (h.below hb) hn
      generalize nrL N = L at *
      generalize L.length = K at *
      generalize nrE N = E at *
      generalize gtI l x = I at *
      generalize gtG l x = G at *
      generalize hvE l x = D at *
      generalize rightRB l = B at *
      clear h hl hroom hreach hf
      go_enter Try.func3, Try.ntmps3
      go_wp2_with (first
        | (go_at_call 7; with_reducible refine (smallR_any _).mono ?_; rintro e w1 ⟨rfl, b1⟩)
        | (go_at_call 8; with_reducible refine (cF _ b1).mono ?_; rintro e w' ⟨rfl, rfl⟩)
        | (go_at_call 9; with_reducible refine (cN _).mono ?_; rintro e w2 ⟨a2, k2, rfl, o2, hb2⟩; have b2 := next b1 hb2)
        | (go_at_call 10; with_reducible refine (cM _).mono ?_; rintro e w3 ⟨a3, k3, rfl, p3, hb3⟩; have b3 := next b2 hb3; have o3 := o2.below hb3)
        | (go_at_call 11; with_reducible refine (cG _ b3).mono ?_; rintro e w4 ⟨rfl, hb4⟩; have b4 := nextR (next b3 hb4) (.cells #[.int .i64 I, .int .i64 G] 29); have o4 := (o3.below hb4).below (below_moreR w4 (.cells #[.int .i64 I, .int .i64 G] 29)); have p4 := (p3.below hb4).below (below_moreR w4 (.cells #[.int .i64 I, .int .i64 G] 29)); have x4 := bxR_new w4 I G)
        | (go_at_call 12; with_reducible refine (cH _ b4).mono ?_; rintro e w5 ⟨rfl, hb5⟩; have b5 := nextR (next b4 hb5) (.cells #[.int .i64 I, .int .i64 G] 29); have o5 := (o4.below hb5).below (below_moreR w5 (.cells #[.int .i64 I, .int .i64 G] 29)); have p5 := (p4.below hb5).below (below_moreR w5 (.cells #[.int .i64 I, .int .i64 G] 29)); have x5 := (x4.kept hb5).more (.cells #[.int .i64 I, .int .i64 G] 29); have y5 := bxR_new w5 I G)
        | (go_at_call 13; with_reducible refine (cS a2 k2 a3 k3 _ o5.rs p5.rs).mono ?_; rintro e w6 ⟨rfl, hb6⟩; have b6 := next b5 hb6; obtain ⟨u0, u1, _, _⟩ := (x5.kept hb6).cells; obtain ⟨v0, v1, _, _⟩ := (y5.kept hb6).cells)
        | (go_at_call 14; with_reducible refine (cR _ b6).mono ?_; rintro e w7 ⟨rfl, hb7⟩; have b7 := next b6 hb7)
        | (go_at_call 15; with_reducible refine (cQ _ b7).mono ?_; rintro e w8 ⟨rfl, hb8⟩; have b8 := next b7 hb8))
      go_ret
      exact ⟨rfl, b8⟩
    · have hxs' : 1024 < (x.size : Int) := by omega
      clear h hl hroom hreach hf
      go_enter Try.func3, Try.ntmps3
      go_wp2_with (first
        | (go_at_call 7; with_reducible refine (smallR_any _).mono ?_; rintro e w1 ⟨rfl, b1⟩)
        | (go_at_call 8; with_reducible refine (cF _ b1).mono ?_; rintro e w' ⟨rfl, rfl⟩))
      go_ret
      exact ⟨rfl, b1⟩
  · rw [fewB_f hf] at cF
    clear h hl hroom hreach hf
    go_enter Try.func3, Try.ntmps3
    go_wp2_with (first
      | (go_at_call 7; with_reducible refine (smallR_any _).mono ?_; rintro e w1 ⟨rfl, b1⟩)
      | (go_at_call 8; with_reducible refine (cF _ b1).mono ?_; rintro e w' ⟨rfl, rfl⟩))
    go_ret
    exact ⟨rfl, b1⟩
end Go.Proofs.Ytmefepjjlhphnaa
