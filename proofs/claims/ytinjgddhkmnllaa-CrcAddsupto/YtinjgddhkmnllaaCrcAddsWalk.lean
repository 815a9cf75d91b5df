/- The law 'CrcAdds', walked. -/
import Derived.Test.YtinjgddhkmnllaaSmallCrc
import Derived.Test.YtinjgddhkmnllaaRefMark
namespace Go.Proofs.Ytinjgddhkmnllaa
open Go.RowKit

theorem crcAdds_walk (w : World) (a0 : Option Addr) (len0 cap0 : Nat) (z0 : List Int) (s0 : Sl .u8 w a0 len0 cap0 z0) (f0 : ∀ n ∈ z0, (Lit.int .u8 n).wf = true) (_c0 : cap0 * 1 ≤ 140737488351232) (k0 : cap0 ≤ 1048576)
    (a1 : Option Addr) (len1 cap1 : Nat) (z1 : List Int) (s1 : Sl .u8 w a1 len1 cap1 z1) (f1 : ∀ n ∈ z1, (Lit.int .u8 n).wf = true) (_c1 : cap1 * 1 ≤ 140737488351232) (k1 : cap1 ≤ 1048576) :
    Calls Try.prog 5 #[.slice a0 len0 cap0, .slice a1 len1 cap1] w fun e w' => e = .returned (.bool true) ∧ Below w.heap.size w w' := by
  have hr0 := s0.room
  have hr1 := s1.room
  have hb0 := bytes_wf f0
  have hb1 := bytes_wf f1
  clear f0 f1
  have n0 : len0 ≤ 140737488355328 := by omega
  have n1 : len1 ≤ 140737488355328 := by omega
  have n00 : 0 + len0 ≤ 140737488355328 := by omega
  have n01 : len0 + len1 ≤ 140737488355328 := by omega
  have hs := sumN_lt (s := 0) (by omega) hb0
  have hs1 := sumN_lt hs hb1
  have hbb := hb0.append hb1
  have hsum : sumN (sumN 0 z0) z1 = sumN 0 (z0 ++ z1) := sumN_append 0 z0 z1
  rw [hsum] at hs1
  have hi0 : (0 : Int) ≤ ((sumN 0 (z0 ++ z1) : Nat) : Int) := by omega
  have hi1 : ((sumN 0 (z0 ++ z1) : Nat) : Int) ≤ 4294967295 := by omega
  go_enter Try.func5, Try.ntmps5
  go_wp2_with (first
    | (go_at_call 8; refine (small_any _).mono ?_; rintro e w1 ⟨rfl, b1⟩; have ba : Below w.heap.size w (w1.alloc (.cells #[] 5)) := b1.alloc b1.size _; have hmade := made_none w1; have ta := s0.below ba)
    | (at_builtin; refine append_sl rfl (.tmp 12) (.tmp 13) rfl w1.heap.size _ 0 [] rfl hmade _ len0 cap0 z0 rfl ta n00 (by simp) ?_; intro bo c2 w2 hown hgrow _; simp only [Nat.zero_add, List.nil_append] at hown; have b2 := ba.grown hgrow ba.size (fun b hb' => Nat.le_trans b1.size (hmade.lt b hb').1); have hz2 := hgrow.size; have t1 := s1.below b2)
    | (at_builtin; refine append_sl rfl (.tmp 14) (.tmp 15) rfl w1.heap.size _ len0 z0 rfl hown.row _ len1 cap1 z1 rfl t1 n01 (by simp at hz2; omega) ?_; intro bo3 c3 w3 hown3 hgrow3 _; have b3 := b2.grown hgrow3 b2.size (fun b hb' => Nat.le_trans b1.size (hown.row.lt b hb').1); have u0 := s0.below b3; have u1 := s1.below b3)
    | (go_at_call 10; with_reducible refine (sum_any _ _ _ z0 _ u0 hb0 n0).mono ?_; rintro e w' ⟨rfl, rfl⟩)
    | (go_at_call 10; with_reducible refine (sum_any _ _ _ z1 _ u1 hb1 n1).mono ?_; rintro e w' ⟨rfl, rfl⟩)
    | (go_at_call 10; with_reducible refine (sum_any _ _ _ (z0 ++ z1) _ hown3.sl hbb n01).mono ?_; rintro e w' ⟨rfl, rfl⟩)
    | (go_at_call 11; with_reducible refine (add_ok (sumN 0 z0) _ _ _ z1 _ hs u1 hb1 n1).mono ?_; rintro e w' ⟨rfl, rfl⟩; rw [hsum])
    | (go_at_call 11; refine (add_ok 0 _ _ _ z1 _ (by omega) u1 hb1 n1).mono ?_; rintro e w' ⟨rfl, rfl⟩))
  go_ret
  exact ⟨rfl, b3⟩
end Go.Proofs.Ytinjgddhkmnllaa
