/- slices.Clone and words.Put by their contracts. -/
import Derived.Test.YtdkkjpcgfloooaaLay
import Derived.WalkSpells
namespace Go.Proofs.Ytdkkjpcgfloooaa
open Go.RowKit

theorem Try.info5 : (Try.prog.info? 5).map (fun i => (i.zero, i.size, i.bytes)) = some (some (.int .u8 0), 1, 1) := by kernel_rfl
theorem Try.info3 : (Try.prog.info? 3).map (fun i => (i.zero, i.size, i.bytes)) = some (some (.int .i64 0), 1, 8) := by kernel_rfl

theorem clone_any (ao : Option Addr) (n cap : Nat) (zs : List Int) (w : World) (h : Sl .u8 w ao n cap zs) (hn0 : 0 < n) (hn : n ≤ 140737488355328) :
    Calls Try.prog 27 #[.slice ao n cap] w fun e w' => ∃ g cap', e = .returned (.slice (some ⟨g, 0, none⟩) n cap') ∧ Own .u8 5 w.heap.size w' (some ⟨g, 0, none⟩) n cap' zs ∧ Below w.heap.size w w' := by
  obtain ⟨b, off, rfl, hlt, hc⟩ := h.here hn0
  have hlen := h.len
  obtain ⟨i0, hi, hz0, hz1, hz2⟩ := info_parts Try.info5
  have q22 : ∀ (w : World) (a : Option Addr) (n c n' c' : Nat), (binOp .eql 22 (.slice a n c) (.slice none n' c')).run Try.prog w = .ok (.bool a.isNone) w := fun w a n c n' c' => Lib.run_eql_slice_nil w _ _ a n c n' c' Try.underlying22
  go_enter Try.func27, Try.ntmps27
  have hmade : (w.alloc (.cells #[] 5)).ownsRow w.heap.size 5 1 (.slice (some ⟨w.heap.size, 0, none⟩) 0 0) 0 [] := World.ownsRow_made w #[] 0 (Nat.le_refl _) (Nat.zero_le _) rfl
  go_wp2_with (at_builtin; refine wpList_append_own _ rfl _ _ 22 rfl w.heap.size 5 i0 (.int .u8 0) 1 1 Try.underlying22 hi hz0 hz1 hz2 rfl (by decide) _ 0 [] rfl hmade ⟨b, off, none⟩ n cap (zs.map (Value.int .u8)) rfl ?c9 ?c1 (ints_oneCell _ _) ?c3 ?c4 ?c5 ?_)
  case c9 => simpa using hlen
  case c1 => exact cells_new h hlt
  case c3 => unfold maxLen; omega
  case c4 => omega
  case c5 => simp
  intro v' w1 hown' hgrow hnil
  obtain ⟨g, cap', rfl⟩ := own_shape hown' (by omega)
  go_wp2
  go_ret
  exact ⟨g, cap', rfl, ⟨hlen, by simpa using hown'⟩, ((Below.refl _ _).alloc (Nat.le_refl _) _).grown hgrow (by simp) (by intro k hk; simp [Value.ownBlock] at hk; omega)⟩

theorem put_arg (ao : Option Addr) (n cap : Nat) (p x : Int) (w : World) (hn : n ≤ 140737488355328) (hp : hasB n p = false) :
    Calls Try.prog 19 #[.slice ao n cap, .int .i64 p, .int .i64 x] w fun e w' => e = .returned (.tuple #[.slice none 0 0, .int .i64 1]) ∧ w = w' := by
  go_enter Try.func19, Try.ntmps19
  go_wp2_with (go_at_call 24; refine (holds_any _ _ _ _ _ (by omega)).mono ?_; rintro e w' ⟨rfl, rfl⟩)
  go_ret2
  exact ⟨rfl, rfl⟩

theorem put_num (ao : Option Addr) (n cap : Nat) (p x : Int) (w : World) (hn : n ≤ 140737488355328) (hp : hasB n p = true) (hx : fitB x = false) :
    Calls Try.prog 19 #[.slice ao n cap, .int .i64 p, .int .i64 x] w fun e w' => e = .returned (.tuple #[.slice none 0 0, .int .i64 4]) ∧ w = w' := by
  go_enter Try.func19, Try.ntmps19
  go_wp2_with (first
    | (go_at_call 24; refine (holds_any _ _ _ _ _ (by omega)).mono ?_; rintro e w' ⟨rfl, rfl⟩)
    | (go_at_call 26; refine (fits_any _ _).mono ?_; rintro e w' ⟨rfl, rfl⟩))
  go_ret2
  exact ⟨rfl, rfl⟩

/-- Where it can't be put: an error, no bytes. -/
theorem put_bad (ao : Option Addr) (n cap : Nat) (p x : Int) (w : World) (hn : n ≤ 140737488355328) (hp : (hasB n p && fitB x) = false) :
    Calls Try.prog 19 #[.slice ao n cap, .int .i64 p, .int .i64 x] w fun e w' => ∃ c : Int, e = .returned (.tuple #[.slice none 0 0, .int .i64 c]) ∧ (c != 0) = true ∧ w = w' := by
  by_cases hh : hasB n p = true
  · refine (put_num ao n cap p x w hn hh (by rw [hh] at hp; simpa using hp)).mono ?_
    rintro e w' ⟨rfl, rfl⟩
    exact ⟨4, rfl, by decide, rfl⟩
  · refine (put_arg ao n cap p x w hn (by simpa using hh)).mono ?_
    rintro e w' ⟨rfl, rfl⟩
    exact ⟨1, rfl, by decide, rfl⟩

theorem put_ok (ao : Option Addr) (n cap : Nat) (zs : List Int) (k : Nat) (x : Int) (w : World) (h : Sl .u8 w ao n cap zs) (hn : n ≤ 140737488355328) (hk : 8 * k + 8 ≤ n) (hx0 : 0 ≤ x) (hx : x ≤ 4611686018427387903) :
    Calls Try.prog 19 #[.slice ao n cap, .int .i64 k, .int .i64 x] w fun e w' => ∃ g cap', e = .returned (.tuple #[.slice (some ⟨g, 0, none⟩) n cap', .int .i64 0]) ∧
      Own .u8 5 w.heap.size w' (some ⟨g, 0, none⟩) n cap' (putk zs (8 * k) x 8) ∧ Below w.heap.size w w' := by
  have hp : hasB n k = true := hasB_t (by omega) (by omega)
  have hf : fitB x = true := fitB_t hx0 hx
  have hlen := h.len
  go_enter Try.func19, Try.ntmps19
  go_wp2_with (first
    | (go_at_call 24; refine (holds_any _ _ _ _ _ (by omega)).mono ?_; rintro e w' ⟨rfl, rfl⟩)
    | (go_at_call 26; refine (fits_any _ _).mono ?_; rintro e w' ⟨rfl, rfl⟩)
    | (go_at_call 27; refine (clone_any _ _ _ zs _ h (by omega) hn).mono ?_; rintro e w1 ⟨g, cap', rfl, hown, hbel⟩; have hcl := hown.cap_le)
    | (go_at_call 28; refine (lay_any w.heap.size _ (k * 8) n cap' _ _ zs x _ hx0 hx (by omega) (by omega) hlen hown.row).mono ?_; rintro e w2 ⟨rfl, ho2, hg2, hs2⟩))
  go_ret2
  rw [Nat.mul_comm] at ho2
  exact ⟨g, cap', rfl, ⟨(by rw [putk_length _ _ _ _ (by omega)]; exact hlen), ho2⟩, hbel.grown hg2 hbel.size (by intro b hb; obtain rfl := Option.some.inj hb; exact (hown.row.lt _ rfl).1)⟩
end Go.Proofs.Ytdkkjpcgfloooaa
