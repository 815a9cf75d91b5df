/- joistref01.Put by its contract. -/
import Derived.Test.YtclkooaepfedaaaDoorPut
import Derived.Test.YtclkooaepfedaaaDoorRefBytes
namespace Go.Proofs.YtclkooaepfedaaaDoor
set_option maxRecDepth 100000
open Go.RowKit

theorem refput_arg (ao : Option Addr) (n cap : Nat) (p x : Int) (w : World) (hn : n ≤ 140737488355328) (hp : hasB n p = false) :
    Calls Tryd.prog 32 #[.slice ao n cap, .int .i64 p, .int .i64 x] w fun e w' => e = .returned (.tuple #[.slice none 0 0, .int .i64 1]) ∧ w = w' := by
  by_cases h0 : 0 ≤ p
  · have h1 : ¬ p < (n : Int) / 8 := fun h => by rw [hasB_t h0 h] at hp; exact absurd hp (by decide)
    clear hp
    go_enter Tryd.func32, Tryd.ntmps32
    go_wp2
    go_ret2
    exact ⟨rfl, rfl⟩
  · clear hp
    go_enter Tryd.func32, Tryd.ntmps32
    go_wp2
    go_ret2
    exact ⟨rfl, rfl⟩

theorem refput_num (ao : Option Addr) (n cap : Nat) (k : Nat) (x : Int) (w : World) (hn : n ≤ 140737488355328) (hk : 8 * k + 8 ≤ n) (hx : fitB x = false) :
    Calls Tryd.prog 32 #[.slice ao n cap, .int .i64 k, .int .i64 x] w fun e w' => e = .returned (.tuple #[.slice none 0 0, .int .i64 4]) ∧ w = w' := by
  by_cases h0 : 0 ≤ x
  · have h1 : ¬ x ≤ 4611686018427387903 := fun h => by rw [fitB_t h0 h] at hx; exact absurd hx (by decide)
    clear hx
    go_enter Tryd.func32, Tryd.ntmps32
    go_wp2
    go_ret2
    exact ⟨rfl, rfl⟩
  · clear hx
    go_enter Tryd.func32, Tryd.ntmps32
    go_wp2
    go_ret2
    exact ⟨rfl, rfl⟩

theorem refput_ok (ao : Option Addr) (n cap : Nat) (zs : List Int) (k : Nat) (x : Int) (w : World) (h : Sl .u8 w ao n cap zs) (hn : n ≤ 140737488351232) (hk : 8 * k + 8 ≤ n) (hx0 : 0 ≤ x) (hx : x ≤ 4611686018427387903) :
    Calls Tryd.prog 32 #[.slice ao n cap, .int .i64 k, .int .i64 x] w fun e w' => ∃ bo m cap', e = .returned (.tuple #[.slice bo m cap', .int .i64 0]) ∧
      Own .u8 5 w.heap.size w' bo m cap' (putk zs (8 * k) x 8) ∧ Below w.heap.size w w' := by
  obtain ⟨i0, hi, hz0, hz1, hz2⟩ := info_parts Tryd.info5
  have hlen := h.len
  have hroom := h.room
  obtain ⟨b, off, rfl, hlt, -⟩ := h.here (by omega)
  have hmade : (w.alloc (.cells #[] 5)).ownsRow w.heap.size 5 1 (.slice (some ⟨w.heap.size, 0, none⟩) 0 0) 0 [] := World.ownsRow_made w #[] 0 (Nat.le_refl _) (Nat.zero_le _) rfl
  have hb0 : Below w.heap.size w (w.alloc (.cells #[] 5)) := (Below.refl _ _).alloc (Nat.le_refl _) _
  have p1 := (h.below hb0).part 0 (8 * k) (by omega)
  have l1 : (((zs.drop 0).take (8 * k)).map (Value.int .u8)).length = 8 * k * 1 := by simp; omega
  have d1 : 0 + 8 * k ≤ maxLen := by unfold maxLen; omega
  have d2 : (0 + 8 * k) * 1 ≤ 140737488355328 := by omega
  have d3 : w.heap.size ≤ (w.alloc (.cells #[] 5)).heap.size := hb0.size
  have d4 : 8 * k + 8 ≤ maxLen := by unfold maxLen; omega
  have d5 : (8 * k + 8) * 1 ≤ 140737488355328 := by omega
  by_cases hcap : cap = 8 * k + 8
  · have hc1 : cap ≤ 8 * k + 8 := by omega
    have hn1 : n ≤ 8 * k + 8 := by omega
    have l3 : (([] : List Int).map (Value.int .u8)).length = (n - (8 * k + 8)) * 1 := by simp; omega
    have d6 : 8 * k + 8 + (n - (8 * k + 8)) ≤ maxLen := by unfold maxLen; omega
    have d7 : (8 * k + 8 + (n - (8 * k + 8))) * 1 ≤ 140737488355328 := by omega
    have HD : Hid ((([] : List Int).map (Value.int .u8)) = (zs.drop (8 * k + 8)).map (Value.int .u8)) := by show _ = _; rw [List.drop_of_length_le (by omega)]
    clear hcap
    go_enter Tryd.func32, Tryd.ntmps32
    go_wp2_with (at_builtin; refine wpList_append_own _ rfl (.tmp 24) (.tmp 28) 26 rfl w.heap.size 5 i0 (.int .u8 0) 1 1 Tryd.underlying26 hi hz0 hz1 hz2 rfl (by decide) _ 0 [] rfl hmade ⟨b, off + 0, none⟩ (8 * k) cap (((zs.drop 0).take (8 * k)).map (Value.int .u8)) rfl l1 p1 (ints_oneCell _ _) d1 d2 d3 ?_)
    intro v1 w1 ho1 hg1 hn1
    obtain ⟨g1, c1, rfl⟩ := own_shape' ho1 hn1
    have hb1 : Below w.heap.size w w1 := hb0.grown hg1 d3 (by intro b hb; simp [Value.ownBlock] at hb; omega)
    have own1 : Own .u8 5 w.heap.size w1 (some ⟨g1, 0, none⟩) (8 * k) c1 (zs.take (8 * k)) := ⟨by simp; omega, by rw [List.map_take]; exact ho1⟩
    clear ho1 hg1 hn1 p1 l1 hmade
    go_wp2_with (first
      | (go_at_call 52; refine (bytes_any x _ hx0 hx).mono ?_; rintro e w2 ⟨g2, c2, rfl, hown2, hb2⟩; have own1' := own1.below hb2; have hbb := next hb1 hb2)
      | (at_builtin; refine wpList_append_own _ rfl (.tmp 30) (.tmp 32) 26 rfl w.heap.size 5 i0 (.int .u8 0) 1 1 Tryd.underlying26 hi hz0 hz1 hz2 rfl (by decide) _ _ _ rfl own1'.row ⟨g2, 0, none⟩ 8 c2 ((bys x 8).map (Value.int .u8)) rfl rfl (hown2.row.cells rfl) (ints_oneCell _ _) d4 d5 hbb.size ?_))
    intro v3 w3 ho3 hg3 _
    obtain ⟨g3, c3, rfl⟩ := own_shape ho3 (by omega)
    have hb3 : Below w.heap.size w w3 := hbb.grown hg3 hbb.size (fun b hb => (own1'.row.lt b hb).1)
    have own3 : Own .u8 5 w.heap.size w3 (some ⟨g3, 0, none⟩) (8 * k + 8) c3 (zs.take (8 * k) ++ bys x 8) := ⟨by simp [bys_length]; omega, by rw [List.map_append]; first | exact ho3 | (rw [List.map_take]; exact ho3)⟩
    have p3 := (h.below hb3).part 0 0 (by omega)
    clear ho3 hg3 own1 own1' hown2 hb1 hb2 hbb
    go_wp2_with (at_builtin; refine wpList_append_own _ rfl (.tmp 34) (.tmp 39) 26 rfl w.heap.size 5 i0 (.int .u8 0) 1 1 Tryd.underlying26 hi hz0 hz1 hz2 rfl (by decide) _ _ _ rfl own3.row ⟨b, off, none⟩ (n - (8 * k + 8)) (cap - (8 * k + 8)) (([] : List Int).map (Value.int .u8)) rfl l3 p3 (ints_oneCell _ _) d6 d7 hb3.size ?_)
    intro v4 w4 ho4 hg4 _
    obtain ⟨g4, c4, rfl⟩ := own_shape ho4 (by omega)
    have hb4 : Below w.heap.size w w4 := hb3.grown hg4 hb3.size (fun b hb => (own3.row.lt b hb).1)
    clear hg4
    go_wp2
    go_ret2
    refine ⟨_, _, _, rfl, ⟨?_, ?_⟩, hb4⟩
    · rw [putk_length _ _ _ _ (by omega)]; omega
    · unfold putk
      rw [List.map_append, List.map_append, ← HD.out]
      simpa [List.map_take, List.map_drop] using ho4
  · have hcap' : ¬ cap - (8 * k + 8) = 0 := by omega
    have l3 : (((zs.drop (8 * k + 8)).take (n - (8 * k + 8))).map (Value.int .u8)).length = (n - (8 * k + 8)) * 1 := by simp; omega
    have d6 : 8 * k + 8 + (n - (8 * k + 8)) ≤ maxLen := by unfold maxLen; omega
    have d7 : (8 * k + 8 + (n - (8 * k + 8))) * 1 ≤ 140737488355328 := by omega
    have HD : Hid (((zs.drop (8 * k + 8)).take (n - (8 * k + 8))).map (Value.int .u8) = (zs.drop (8 * k + 8)).map (Value.int .u8)) := by show _ = _; rw [List.take_of_length_le (by simp; omega)]
    go_enter Tryd.func32, Tryd.ntmps32
    go_wp2_with (at_builtin; refine wpList_append_own _ rfl (.tmp 24) (.tmp 28) 26 rfl w.heap.size 5 i0 (.int .u8 0) 1 1 Tryd.underlying26 hi hz0 hz1 hz2 rfl (by decide) _ 0 [] rfl hmade ⟨b, off + 0, none⟩ (8 * k) cap (((zs.drop 0).take (8 * k)).map (Value.int .u8)) rfl l1 p1 (ints_oneCell _ _) d1 d2 d3 ?_)
    intro v1 w1 ho1 hg1 hn1
    obtain ⟨g1, c1, rfl⟩ := own_shape' ho1 hn1
    have hb1 : Below w.heap.size w w1 := hb0.grown hg1 d3 (by intro b hb; simp [Value.ownBlock] at hb; omega)
    have own1 : Own .u8 5 w.heap.size w1 (some ⟨g1, 0, none⟩) (8 * k) c1 (zs.take (8 * k)) := ⟨by simp; omega, by rw [List.map_take]; exact ho1⟩
    clear ho1 hg1 hn1 p1 l1 hmade
    go_wp2_with (first
      | (go_at_call 52; refine (bytes_any x _ hx0 hx).mono ?_; rintro e w2 ⟨g2, c2, rfl, hown2, hb2⟩; have own1' := own1.below hb2; have hbb := next hb1 hb2)
      | (at_builtin; refine wpList_append_own _ rfl (.tmp 30) (.tmp 32) 26 rfl w.heap.size 5 i0 (.int .u8 0) 1 1 Tryd.underlying26 hi hz0 hz1 hz2 rfl (by decide) _ _ _ rfl own1'.row ⟨g2, 0, none⟩ 8 c2 ((bys x 8).map (Value.int .u8)) rfl rfl (hown2.row.cells rfl) (ints_oneCell _ _) d4 d5 hbb.size ?_))
    intro v3 w3 ho3 hg3 _
    obtain ⟨g3, c3, rfl⟩ := own_shape ho3 (by omega)
    have hb3 : Below w.heap.size w w3 := hbb.grown hg3 hbb.size (fun b hb => (own1'.row.lt b hb).1)
    have own3 : Own .u8 5 w.heap.size w3 (some ⟨g3, 0, none⟩) (8 * k + 8) c3 (zs.take (8 * k) ++ bys x 8) := ⟨by simp [bys_length]; omega, by rw [List.map_append]; first | exact ho3 | (rw [List.map_take]; exact ho3)⟩
    have p3 := (h.below hb3).part (8 * k + 8) (n - (8 * k + 8)) (by omega)
    clear ho3 hg3 own1 own1' hown2 hb1 hb2 hbb
    go_wp2_with (at_builtin; refine wpList_append_own _ rfl (.tmp 34) (.tmp 39) 26 rfl w.heap.size 5 i0 (.int .u8 0) 1 1 Tryd.underlying26 hi hz0 hz1 hz2 rfl (by decide) _ _ _ rfl own3.row ⟨b, off + (8 * k + 8), none⟩ (n - (8 * k + 8)) (cap - (8 * k + 8)) (((zs.drop (8 * k + 8)).take (n - (8 * k + 8))).map (Value.int .u8)) rfl l3 p3 (ints_oneCell _ _) d6 d7 hb3.size ?_)
    intro v4 w4 ho4 hg4 _
    obtain ⟨g4, c4, rfl⟩ := own_shape ho4 (by omega)
    have hb4 : Below w.heap.size w w4 := hb3.grown hg4 hb3.size (fun b hb => (own3.row.lt b hb).1)
    clear hg4
    go_wp2
    go_ret2
    refine ⟨_, _, _, rfl, ⟨?_, ?_⟩, hb4⟩
    · rw [putk_length _ _ _ _ (by omega)]; omega
    · unfold putk
      rw [List.map_append, List.map_append, ← HD.out]
      simpa [List.map_take, List.map_drop] using ho4
end Go.Proofs.YtclkooaepfedaaaDoor
