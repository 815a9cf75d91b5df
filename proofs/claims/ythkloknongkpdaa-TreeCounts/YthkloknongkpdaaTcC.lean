/- tree.node's inBytes by its contract. -/
import Derived.Test.YthkloknongkpdaaTcB
import Derived.Test.YthkloknongkpdaaOf
import Derived.Test.YthkloknongkpdaaMtE
import Derived.Test.YthkloknongkpdaaMtF
namespace Go.Proofs.Ythkloknongkpdaa
set_option maxRecDepth 100000
open Go.RowKit
set_option linter.unusedVariables false
set_option linter.unusedSimpArgs false
set_option maxRecDepth 100000

/-- Pairs, one behind another, as the code holds them. -/
def prS (ps : List Spn) : List Int := ps.flatMap (fun s => [s.pos, s.sz])
theorem prS_map (ps : List (Int × Int)) : prS (ps.map spP) = prL ps := by unfold prS prL; rw [List.flatMap_map]; rfl
theorem prS_len (ps : List Spn) : (prS ps).length = 2 * ps.length := by
  induction ps with
  | nil => rfl
  | cons p r ih => simp only [prS, List.flatMap_cons, List.length_append, List.length_cons, List.length_nil] at ih ⊢; omega
theorem prS_next {ps : List Spn} {k : Nat} (h : k < ps.length) : prS (ps.take (k + 1)) = prS (ps.take k) ++ [(pa ps k).pos, (pa ps k).sz] := by
  rw [take_pa h]; unfold prS; rw [List.flatMap_append]; rfl
/-- A node's words, but for those that are 0 behind. -/
def ndH (leaf : Bool) (ps : List Spn) : List Int := (2 * ps.length + (if leaf then 1 else 0) : Int) :: prS ps
theorem ndH_p16 (l : List Blk) (j i : Nat) : p16 (ndH (j == 0) (psS l j i)) = ndW l j i := by
  unfold ndW nodL ndH psS
  rw [prS_map, List.length_map]
theorem own_i1 (w : World) (B k : Nat) (x : Int) (hk : w.heap.size = k) (hB : B ≤ k) : Own .i64 3 B (w.alloc (.cells #[.int .i64 x] 3)) (some ⟨k, 0, none⟩) 1 1 [x] := by
  subst hk
  exact ⟨rfl, rfl, Or.inr ⟨w.heap.size, 1, #[.int .i64 x], rfl, hB, heap_alloc_new w _, Nat.le_refl _, by unfold maxLen; omega, rfl, rfl⟩⟩

set_option maxHeartbeats 1000000 in
theorem inBytes_true (ao : Option Addr) (m c : Nat) (ps : List Spn) (w : World) (h : Ps w ao m c ps) (hm : m ≤ 7) (hok : okL (ndH true ps) = true) :
    Calls Try.prog 32 #[.agg #[.bool true, .slice ao m c]] w fun e w' => ∃ bo M C, e = .returned (.slice bo M C) ∧ Own .u8 5 w.heap.size w' bo M C (ofL (ndH true ps)) ∧ Below w.heap.size w w' := by
  have hl := h.len
  have x1 : IntKind.i64.wrap (2 * (m : Int)) = 2 * (m : Int) := IntWalk.i64_in _ ⟨by omega, by omega⟩
  have x2 : IntKind.i64.wrap (2 * (m : Int) + 1) = 2 * (m : Int) + 1 := IntWalk.i64_in _ ⟨by omega, by omega⟩
  have HH : Hid (ndH true ps = (2 * (m : Int) + 1) :: prS ps) := hid (by unfold ndH; rw [hl]; simp)
  have hb1 : ∀ x : Int, Below w.heap.size w ((w.alloc (.cells #[.bool true, .slice ao m c] 58)).alloc (.cells #[.int .i64 x] 3)) := fun x => ((Below.refl _ _).alloc (Nat.le_refl _) _).alloc (by simp) _
  have HB1 := hid (hb1 (2 * (m : Int) + 1))
  have HO1 := hid (own_i1 (w.alloc (.cells #[.bool true, .slice ao m c] 58)) w.heap.size (w.heap.size + 1) (2 * (m : Int) + 1) (by simp) (by omega))
  have HOK := hid hok
  clear hb1 hok
  go_enter Try.func32, Try.ntmps32
  go_wp2
  go_loopw [4, 22] (fun s4 s22 wr => ∃ (k : Nat) (bo : Option Addr) (M C : Nat), k ≤ m ∧ s4 = .slice bo M C ∧ s22 = .int .i64 k ∧ M ≤ 1 + 2 * k ∧ Hid (Own .i64 3 w.heap.size wr bo M C ((2 * (m : Int) + 1) :: prS (ps.take k))) ∧ Below w.heap.size w wr) (fun _ s22 _ => m - (intOf s22).toNat)
  case atStart => exact ⟨0, _, 1, 1, Nat.zero_le _, rfl, rfl, Nat.le_refl _, HO1, HB1.out⟩
  case round =>
    obtain ⟨k, bo, M, C, hk, rfl, rfl, hM, HO, hb⟩ := hrel
    clear HB1 HO1
    by_cases hlt : k < m
    · obtain ⟨b, o, rfl, _, _⟩ := h.here (by omega)
      have hki : (k : Int) < (m : Int) := by omega
      obtain ⟨e0, e1⟩ := h.at hb hlt
      have HN := hid (prS_next (ps := ps) (k := k) (by omega))
      generalize pa ps k = s at *
      obtain ⟨p, z⟩ := s
      simp only at e0 e1 HN
      have HB2 : Hid (Below w.heap.size w ((wr.alloc (.cells #[.int .i64 p, .int .i64 z] 68)).alloc (.cells #[.int .i64 p, .int .i64 z] 3))) := hid ((hb.alloc hb.size _).alloc (by have := hb.size; simp; omega) _)
      have HS2 := hid (sl_int2 (wr.alloc (.cells #[.int .i64 p, .int .i64 z] 68)) (wr.heap.size + 1) p z (by simp))
      have HO2 := hid (HO.out.below (((Below.refl _ wr).alloc (Nat.le_refl _) (.cells #[.int .i64 p, .int .i64 z] 68)).alloc (by simp) (.cells #[.int .i64 p, .int .i64 z] 3)))
      have hbs : w.heap.size ≤ ((wr.alloc (.cells #[.int .i64 p, .int .i64 z] 68)).alloc (.cells #[.int .i64 p, .int .i64 z] 3)).heap.size := HB2.out.size
      have hMb : (M + 2) * 8 ≤ 140737488355328 := by omega
      clear h HO HH
      go_wp2_with (refine append_il rfl (.tmp 26) (.tmp 31) rfl w.heap.size _ M _ rfl HO2.out.row _ 2 2 [p, z] rfl HS2.out hMb hbs ?_; intro bo' c' w2 hO3 hg3 _)
      go_roundw
      case rel =>
        refine ⟨k + 1, bo', M + 2, c', by omega, rfl, by go_num, by omega, hid (by rw [HN.out]; simpa using hO3), ?_⟩
        exact HB2.out.grown hg3 hbs (fun j hj => (HO2.out.row.lt j hj).1)
      case measure => simp [intOf]; omega
    · obtain rfl : k = m := by omega
      have HO2 : Hid (Own .i64 3 w.heap.size wr bo M C (ndH true ps)) := hid (by have := HO.out; rw [List.take_of_length_le (by omega)] at this; rw [HH.out]; exact this)
      have cO := of_any bo M C (ndH true ps) wr HO2.out.sl (by omega)
      rw [ofR_t HOK.out, ofE_t HOK.out] at cO
      clear HO HO2 h HH HOK
      go_wp2_with (first
        | (go_at_call 43; with_reducible refine cO.mono ?_; rintro e w2 ⟨bo2, M2, C2, rfl, hO, hb2⟩; have HO5 := hid (hO.mono hb.size); have hb3 := next hb hb2; clear hO hb2))
      go_ret
      exact ⟨bo2, M2, C2, rfl, HO5.out, hb3⟩
set_option maxHeartbeats 1000000 in
theorem inBytes_false (ao : Option Addr) (m c : Nat) (ps : List Spn) (w : World) (h : Ps w ao m c ps) (hm : m ≤ 7) (hok : okL (ndH false ps) = true) :
    Calls Try.prog 32 #[.agg #[.bool false, .slice ao m c]] w fun e w' => ∃ bo M C, e = .returned (.slice bo M C) ∧ Own .u8 5 w.heap.size w' bo M C (ofL (ndH false ps)) ∧ Below w.heap.size w w' := by
  have hl := h.len
  have x1 : IntKind.i64.wrap (2 * (m : Int)) = 2 * (m : Int) := IntWalk.i64_in _ ⟨by omega, by omega⟩
  have HH : Hid (ndH false ps = (2 * (m : Int)) :: prS ps) := hid (by unfold ndH; rw [hl]; simp)
  have hb1 : ∀ x : Int, Below w.heap.size w ((w.alloc (.cells #[.bool false, .slice ao m c] 58)).alloc (.cells #[.int .i64 x] 3)) := fun x => ((Below.refl _ _).alloc (Nat.le_refl _) _).alloc (by simp) _
  have HB1 := hid (hb1 (2 * (m : Int)))
  have HO1 := hid (own_i1 (w.alloc (.cells #[.bool false, .slice ao m c] 58)) w.heap.size (w.heap.size + 1) (2 * (m : Int)) (by simp) (by omega))
  have HOK := hid hok
  clear hb1 hok
  go_enter Try.func32, Try.ntmps32
  go_wp2
  go_loopw [4, 22] (fun s4 s22 wr => ∃ (k : Nat) (bo : Option Addr) (M C : Nat), k ≤ m ∧ s4 = .slice bo M C ∧ s22 = .int .i64 k ∧ M ≤ 1 + 2 * k ∧ Hid (Own .i64 3 w.heap.size wr bo M C ((2 * (m : Int)) :: prS (ps.take k))) ∧ Below w.heap.size w wr) (fun _ s22 _ => m - (intOf s22).toNat)
  case atStart => exact ⟨0, _, 1, 1, Nat.zero_le _, rfl, rfl, Nat.le_refl _, HO1, HB1.out⟩
  case round =>
    obtain ⟨k, bo, M, C, hk, rfl, rfl, hM, HO, hb⟩ := hrel
    clear HB1 HO1
    by_cases hlt : k < m
    · obtain ⟨b, o, rfl, _, _⟩ := h.here (by omega)
      have hki : (k : Int) < (m : Int) := by omega
      obtain ⟨e0, e1⟩ := h.at hb hlt
      have HN := hid (prS_next (ps := ps) (k := k) (by omega))
      generalize pa ps k = s at *
      obtain ⟨p, z⟩ := s
      simp only at e0 e1 HN
      have HB2 : Hid (Below w.heap.size w ((wr.alloc (.cells #[.int .i64 p, .int .i64 z] 68)).alloc (.cells #[.int .i64 p, .int .i64 z] 3))) := hid ((hb.alloc hb.size _).alloc (by have := hb.size; simp; omega) _)
      have HS2 := hid (sl_int2 (wr.alloc (.cells #[.int .i64 p, .int .i64 z] 68)) (wr.heap.size + 1) p z (by simp))
      have HO2 := hid (HO.out.below (((Below.refl _ wr).alloc (Nat.le_refl _) (.cells #[.int .i64 p, .int .i64 z] 68)).alloc (by simp) (.cells #[.int .i64 p, .int .i64 z] 3)))
      have hbs : w.heap.size ≤ ((wr.alloc (.cells #[.int .i64 p, .int .i64 z] 68)).alloc (.cells #[.int .i64 p, .int .i64 z] 3)).heap.size := HB2.out.size
      have hMb : (M + 2) * 8 ≤ 140737488355328 := by omega
      clear h HO HH
      go_wp2_with (refine append_il rfl (.tmp 26) (.tmp 31) rfl w.heap.size _ M _ rfl HO2.out.row _ 2 2 [p, z] rfl HS2.out hMb hbs ?_; intro bo' c' w2 hO3 hg3 _)
      go_roundw
      case rel =>
        refine ⟨k + 1, bo', M + 2, c', by omega, rfl, by go_num, by omega, hid (by rw [HN.out]; simpa using hO3), ?_⟩
        exact HB2.out.grown hg3 hbs (fun j hj => (HO2.out.row.lt j hj).1)
      case measure => simp [intOf]; omega
    · obtain rfl : k = m := by omega
      have HO2 : Hid (Own .i64 3 w.heap.size wr bo M C (ndH false ps)) := hid (by have := HO.out; rw [List.take_of_length_le (by omega)] at this; rw [HH.out]; exact this)
      have cO := of_any bo M C (ndH false ps) wr HO2.out.sl (by omega)
      rw [ofR_t HOK.out, ofE_t HOK.out] at cO
      clear HO HO2 h HH HOK
      go_wp2_with (first
        | (go_at_call 43; with_reducible refine cO.mono ?_; rintro e w2 ⟨bo2, M2, C2, rfl, hO, hb2⟩; have HO5 := hid (hO.mono hb.size); have hb3 := next hb hb2; clear hO hb2))
      go_ret
      exact ⟨bo2, M2, C2, rfl, HO5.out, hb3⟩
theorem inBytes_any (leaf : Bool) (ao : Option Addr) (m c : Nat) (ps : List Spn) (w : World) (h : Ps w ao m c ps) (hm : m ≤ 7) (hok : okL (ndH leaf ps) = true) :
    Calls Try.prog 32 #[.agg #[.bool leaf, .slice ao m c]] w fun e w' => ∃ bo M C, e = .returned (.slice bo M C) ∧ Own .u8 5 w.heap.size w' bo M C (ofL (ndH leaf ps)) ∧ Below w.heap.size w w' := by
  cases leaf with
  | true => exact inBytes_true ao m c ps w h hm hok
  | false => exact inBytes_false ao m c ps w h hm hok
end Go.Proofs.Ythkloknongkpdaa
