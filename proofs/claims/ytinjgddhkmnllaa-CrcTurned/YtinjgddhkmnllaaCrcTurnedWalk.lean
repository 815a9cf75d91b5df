/- The law 'CrcTurned', walked. -/
import Derived.Test.YtinjgddhkmnllaaSmallCrc
import Derived.Test.YtinjgddhkmnllaaTurned
namespace Go.Proofs.Ytinjgddhkmnllaa
open Go.RowKit

/-- What was sealed opens. -/
theorem open_sealed (ao : Option Addr) (n cap : Nat) (zs : List Int) (w : World) (hsl : Sl .u8 w ao (n + 8) cap (zs ++ bys (sumN 0 zs : Nat) 8)) (hb : Bytes zs) (hl : zs.length = n) (hn : n + 8 ≤ 140737488355328) :
    Calls Try.prog 16 #[.slice ao (n + 8) cap] w fun e w' => ∃ bo c, e = .returned (.tuple #[.slice bo n c, .bool true]) ∧ Own .u8 5 w.heap.size w' bo n c zs ∧ Below w.heap.size w w' := by
  refine (open_any ao (n + 8) cap _ w hsl (hb.append (bys_bytes _ _)) hn).mono ?_
  rintro e w' ⟨bo, m, c, rfl, hown, hbel⟩
  have hop := opB_seal hb
  rw [hop.2] at hown
  rw [hop.1]
  obtain rfl : m = n := by rw [← hown.len, hl]
  exact ⟨bo, c, rfl, hown, hbel⟩
/-- What was turned does not. -/
theorem open_turned (ao : Option Addr) (n cap : Nat) (zs : List Int) (w : World) (hsl : Sl .u8 w ao n cap zs) (hb : Bytes zs) (hn : n ≤ 140737488355328) (ho : opB zs = false) :
    Calls Try.prog 16 #[.slice ao n cap] w fun e w' => ∃ bo m c, e = .returned (.tuple #[.slice bo m c, .bool false]) ∧ Below w.heap.size w w' := by
  refine (open_any ao n cap zs w hsl hb hn).mono ?_
  rintro e w' ⟨bo, m, c, rfl, hown, hbel⟩
  rw [ho]
  exact ⟨bo, m, c, rfl, hbel⟩
theorem Own.at {k : IntKind} {e : TypeId} {B : Nat} {w : World} {g n cap : Nat} {zs : List Int} {z : Int} (h : Own k e B w (some ⟨g, 0, none⟩) n cap zs) (i : Nat) (hi : i < n) (hz : zs.getD i 0 = z) : w.cell? ⟨g, i, none⟩ = some (.int k z) := by
  obtain ⟨b, off, e, _, hc⟩ := h.sl.here (by omega)
  simp only [Option.some.injEq, Addr.mk.injEq, and_true] at e
  obtain ⟨rfl, rfl⟩ := e
  have := hc i hi
  rwa [Nat.zero_add, hz] at this
theorem Own.set {k : IntKind} {e : TypeId} {B : Nat} {w : World} {g n cap : Nat} {zs : List Int} (h : Own k e B w (some ⟨g, 0, none⟩) n cap zs) (i : Nat) (y : Int) : Own k e B (w.setCell ⟨g, i, none⟩ (.int k y)) (some ⟨g, 0, none⟩) n cap (zs.set i y) :=
  ⟨by rw [List.length_set]; exact h.len, by rw [List.map_set]; exact (h.row.stored i (.int k y)).1⟩

theorem crcTurned_walk (w : World) (a0 : Option Addr) (len0 cap0 : Nat) (z0 : List Int) (s0 : Sl .u8 w a0 len0 cap0 z0) (f0 : ∀ n ∈ z0, (Lit.int .u8 n).wf = true) (c0 : cap0 * 1 ≤ 140737488351232)
    (a1 : Int) (_f1 : (Lit.int .i64 a1).wf = true) (a2 : Int) (f2 : (Lit.int .u8 a2).wf = true) :
    Calls Try.prog 6 #[.slice a0 len0 cap0, .int .i64 a1, .int .u8 a2] w fun e w' => e = .returned (.bool true) ∧ Below w.heap.size w w' := by
  have hr0 := s0.room
  have hl0 := s0.len
  have hb := bytes_wf f0
  have hx := bounds_u8 f2
  clear f0 f2
  have n8 : len0 + 8 ≤ 140737488355328 := by omega
  by_cases hk : 0 ≤ a1 ∧ a1 < (len0 : Int)
  · obtain ⟨k, rfl⟩ := Int.eq_ofNat_of_zero_le hk.1
    have hkl : k < len0 := by omega
    by_cases hw0 : a2 = 0
    · subst hw0
      go_enter Try.func6, Try.ntmps6
      go_wp2_with (first
        | (go_at_call 8; refine (small_any _).mono ?_; rintro e w1 ⟨rfl, hb1⟩; have t0 := s0.below hb1)
        | (go_at_call 15; refine (seal_any _ _ _ z0 _ t0 hb n8).mono ?_; rintro e w2 ⟨bo, c, rfl, hown, hb2⟩; have q0 := t0.below hb2)
        | (go_at_call 16; with_reducible refine (open_sealed _ _ _ z0 w2 hown.sl hb hl0 n8).mono ?_; rintro e w3 ⟨bo3, c3, rfl, hown3, hb3⟩; have ty := hown3.sl.text (P := Try.prog) Try.underlying22 Try.underlying5 Try.underlying9; have tb := (q0.below hb3).text (P := Try.prog) Try.underlying22 Try.underlying5 Try.underlying9))
      go_ret
      exact ⟨rfl, next (next hb1 hb2) hb3⟩
    · obtain ⟨z, hz⟩ : ∃ z, z0.getD k 0 = z := ⟨_, rfl⟩
      have hzb : 0 ≤ z0.getD k 0 ∧ z0.getD k 0 ≤ 255 := hb.at k
      obtain ⟨y, hy, hyb, hyn⟩ := u8_turn hzb hx hw0
      have hop := opB_turned hb k (by omega) y hyb hyn
      rw [hz] at hy
      have hcat : (z0 ++ bys (sumN 0 z0 : Nat) 8).getD k 0 = z := by rw [← hz]; simp [List.getD, List.getElem?_append_left (show k < z0.length by omega)]
      have hTb := bytes_set (hb.append (bys_bytes (sumN 0 z0 : Nat) 8)) k y hyb
      have hw0b : (a2 == 0) = false := by simpa using hw0
      have hk8 : k < len0 + 8 := by omega
      have h8 : 0 < len0 + 8 := by omega
      clear hzb hz hyn
      go_enter Try.func6, Try.ntmps6
      go_wp2_with (first
        | (go_at_call 8; refine (small_any _).mono ?_; rintro e w1 ⟨rfl, hb1⟩; have t0 := s0.below hb1)
        | (go_at_call 15; refine (seal_any _ _ _ z0 _ t0 hb n8).mono ?_; rintro e w2 ⟨bo, c, rfl, hown, hb2⟩; have q0 := t0.below hb2)
        | (go_at_call 16; with_reducible refine (open_sealed _ _ _ z0 w2 hown.sl hb hl0 n8).mono ?_; rintro e w3 ⟨bo3, c3, rfl, hown3, hb3⟩; have ty := hown3.sl.text (P := Try.prog) Try.underlying22 Try.underlying5 Try.underlying9; have tb := (q0.below hb3).text (P := Try.prog) Try.underlying22 Try.underlying5 Try.underlying9; have hown' := hown.below hb3; obtain ⟨g, c', hg⟩ := own_shape hown'.row h8; simp only [Value.slice.injEq] at hg; obtain ⟨rfl, _, rfl⟩ := hg; have hcell := hown'.at k hk8 hcat; have hfr := hown'.row.frozenAt k; have hset := hown'.set k y; have hgB := (hown'.row.lt g rfl).1)
        | (go_at_call 16; with_reducible refine (open_turned _ _ _ _ _ hset.sl hTb n8 hop).mono ?_; rintro e w5 ⟨bo5, m5, c5, rfl, hb5⟩))
      go_ret
      refine ⟨rfl, ?_⟩
      have b3 := next (next hb1 hb2) hb3
      have b4 : Below w.heap.size w (w3.setCell ⟨g, k, none⟩ (.int .u8 y)) := b3.setCell (Nat.le_trans hb1.size hgB) _
      exact next b4 hb5
  · by_cases hneg : a1 < 0
    · go_enter Try.func6, Try.ntmps6
      go_wp2_with (first
        | (go_at_call 8; refine (small_any _).mono ?_; rintro e w1 ⟨rfl, hb1⟩; have t0 := s0.below hb1)
        | (go_at_call 15; refine (seal_any _ _ _ z0 _ t0 hb n8).mono ?_; rintro e w2 ⟨bo, c, rfl, hown, hb2⟩; have q0 := t0.below hb2)
        | (go_at_call 16; with_reducible refine (open_sealed _ _ _ z0 w2 hown.sl hb hl0 n8).mono ?_; rintro e w3 ⟨bo3, c3, rfl, hown3, hb3⟩; have ty := hown3.sl.text (P := Try.prog) Try.underlying22 Try.underlying5 Try.underlying9; have tb := (q0.below hb3).text (P := Try.prog) Try.underlying22 Try.underlying5 Try.underlying9))
      go_ret
      exact ⟨rfl, next (next hb1 hb2) hb3⟩
    · have hge : (len0 : Int) ≤ a1 := by omega
      go_enter Try.func6, Try.ntmps6
      go_wp2_with (first
        | (go_at_call 8; refine (small_any _).mono ?_; rintro e w1 ⟨rfl, hb1⟩; have t0 := s0.below hb1)
        | (go_at_call 15; refine (seal_any _ _ _ z0 _ t0 hb n8).mono ?_; rintro e w2 ⟨bo, c, rfl, hown, hb2⟩; have q0 := t0.below hb2)
        | (go_at_call 16; with_reducible refine (open_sealed _ _ _ z0 w2 hown.sl hb hl0 n8).mono ?_; rintro e w3 ⟨bo3, c3, rfl, hown3, hb3⟩; have ty := hown3.sl.text (P := Try.prog) Try.underlying22 Try.underlying5 Try.underlying9; have tb := (q0.below hb3).text (P := Try.prog) Try.underlying22 Try.underlying5 Try.underlying9))
      go_ret
      exact ⟨rfl, next (next hb1 hb2) hb3⟩
end Go.Proofs.Ytinjgddhkmnllaa
