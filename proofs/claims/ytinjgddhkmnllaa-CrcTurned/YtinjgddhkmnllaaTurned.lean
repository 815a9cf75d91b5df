/- One byte of what was sealed is turned: it does not open. -/
import Derived.Test.YtinjgddhkmnllaaUnseal
namespace Go.Proofs.Ytinjgddhkmnllaa
open Go.RowKit

theorem bytes_set {zs : List Int} (h : Bytes zs) (k : Nat) (y : Int) (hy : 0 ≤ y ∧ y ≤ 255) : Bytes (zs.set k y) := fun z hz => by
  rcases List.mem_or_eq_of_mem_set hz with h1 | h1
  · exact h z h1
  · subst h1; exact hy
theorem bys_inj {a b : Int} (ha : fitB a = true) (hb : fitB b = true) (h : bys a 8 = bys b 8) : a = b := by
  rw [← le_bys8 ha, h, le_bys8 hb]
theorem seal_set (zs : List Int) (d : List Int) (k : Nat) (hk : k < zs.length) (y : Int) : (zs ++ d).set k y = zs.set k y ++ d := by
  rw [List.set_append_left _ _ hk]
theorem opB_turned {zs : List Int} (hb : Bytes zs) (k : Nat) (hk : k < zs.length) (y : Int) (hy : 0 ≤ y ∧ y ≤ 255) (hne : y ≠ zs.getD k 0) : opB ((zs ++ bys (sumN 0 zs : Nat) 8).set k y) = false := by
  rw [seal_set _ _ k hk]
  have hl : (zs.set k y ++ bys (sumN 0 zs : Nat) 8).length = zs.length + 8 := by simp [bys_length]
  have hls : (zs.set k y).length = zs.length := by simp
  have ht : (zs.set k y ++ bys (sumN 0 zs : Nat) 8).take zs.length = zs.set k y := by rw [List.take_append_of_le_length (by omega)]; exact List.take_of_length_le (by omega)
  have hd : (zs.set k y ++ bys (sumN 0 zs : Nat) 8).drop zs.length = bys (sumN 0 zs : Nat) 8 := by rw [List.drop_append, List.drop_of_length_le (by omega), hls, Nat.sub_self, List.drop_zero, List.nil_append]
  rw [Bool.eq_false_iff]
  intro h
  unfold opB at h
  rw [decide_eq_true_eq, hl, Nat.add_sub_cancel, ht, hd] at h
  have := bys_inj (sum_fits hb) (sum_fits (bytes_set hb k y hy)) h.2
  exact sumN_turned hb k hk y hy hne 0 (by omega) (by omega)
/-- A byte turned is another byte. -/
theorem u8_turn {z x : Int} (hz : 0 ≤ z ∧ z ≤ 255) (hx : 0 ≤ x ∧ x ≤ 255) (h0 : x ≠ 0) : ∃ y, bits .xor .u8 z x = y ∧ (0 ≤ y ∧ y ≤ 255) ∧ y ≠ z := by
  refine ⟨_, u8_xor z x hz.1 (by omega) hx.1 (by omega), ?_, ?_⟩
  · have : z.toNat ^^^ x.toNat < 256 := Nat.xor_lt_two_pow (n := 8) (by omega) (by omega)
    omega
  · intro h
    have h1 : z.toNat ^^^ x.toNat = z.toNat := by omega
    have h2 : z.toNat ^^^ x.toNat = z.toNat ^^^ 0 := by rw [h1, Nat.xor_zero]
    have := xor_inj h2
    omega
end Go.Proofs.Ytinjgddhkmnllaa
