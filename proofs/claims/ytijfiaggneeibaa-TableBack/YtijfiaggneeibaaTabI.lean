/- table.slot by its contract. -/
import Derived.Test.YtijfiaggneeibaaTabH
import Derived.Deep.RegionHeld3
import Derived.Laws.Bits64b
namespace Go.Proofs.Ytijfiaggneeibaa
set_option maxRecDepth 100000
open Go.RowKit
set_option linter.unusedVariables false
set_option linter.unusedSimpArgs false
set_option maxRecDepth 100000

theorem i64_and_small (a b : Nat) (ha : a < 4611686018427387904) (hb : b < 16) : bits .and .i64 (a : Int) (b : Int) = ((a &&& b : Nat) : Int) := by
  have hx : a &&& b < 16 := Nat.lt_of_le_of_lt Nat.and_le_right hb
  show IntKind.i64.wrap ((BitVec.ofInt 64 (a : Int) &&& BitVec.ofInt 64 (b : Int)).toNat : Int) = _
  rw [BitVec.toNat_and, ofInt_u64 a (by omega), ofInt_u64 b (by omega), IntKind.wrap_i64]
  omega
theorem and_one_ne (a : Int) (h0 : 0 ≤ a) (h1 : a ≤ 4611686018427387903) : (bits .and .i64 a 1 != 0) = decide (a % 2 = 1) := by
  obtain ⟨n, rfl⟩ := Int.eq_ofNat_of_zero_le h0
  have e := i64_and_small n 1 (by omega) (by omega)
  rw [Nat.and_one_is_mod] at e
  rw [show ((1 : Nat) : Int) = 1 from rfl] at e
  rw [e, Bool.eq_iff_iff]
  simp only [bne_iff_ne, ne_eq, decide_eq_true_eq]
  omega
theorem and_two_ne (a : Int) (h0 : 0 ≤ a) (h1 : a ≤ 4611686018427387903) : (bits .and .i64 a 2 != 0) = decide (2 ≤ a % 4) := by
  obtain ⟨n, rfl⟩ := Int.eq_ofNat_of_zero_le h0
  have e := i64_and_small n 2 (by omega) (by omega)
  have e2 : n &&& 2 = (n % 4) &&& 2 := by
    rw [← Nat.and_two_pow_sub_one_eq_mod n 2, Nat.and_assoc]; rfl
  rw [show ((2 : Nat) : Int) = 2 from rfl, e2] at e
  rw [e, Bool.eq_iff_iff]
  simp only [bne_iff_ne, ne_eq, decide_eq_true_eq]
  have hi : ((n : Int) % 4) = ((n % 4 : Nat) : Int) := by omega
  rw [hi]
  rcases (show n % 4 = 0 ∨ n % 4 = 1 ∨ n % 4 = 2 ∨ n % 4 = 3 by omega) with h | h | h | h <;> rw [h] <;> decide
set_option maxHeartbeats 1000000 in
theorem slot_any (g off len cap : Nat) (a b c : Int) (w : World) (h0 : w.cell? ⟨g, off, none⟩ = some (.int .i64 a)) (h1 : w.cell? ⟨g, off + 1, none⟩ = some (.int .i64 b)) (h2 : w.cell? ⟨g, off + 2, none⟩ = some (.int .i64 c)) (hl : 3 ≤ len) (a0 : 0 ≤ a) (a1 : a ≤ 4611686018427387903) :
    Calls Try.prog 44 #[.slice (some ⟨g, off, none⟩) len cap] w fun e w' => e = .returned (.agg #[.int .i64 (slW a b c).gen, .bool (slW a b c).live, .bool (slW a b c).two, .int .i64 (slW a b c).pos, .int .i64 (slW a b c).len]) ∧ Below w.heap.size w w' := by
  have hg : g < w.heap.size := World.block_lt_of_cell? w _ h0
  have hne : g ≠ w.heap.size := by omega
  have hne' : w.heap.size ≠ g := by omega
  have l0 : (0 : Int) < (len : Int) := by omega
  have l1 : (1 : Int) < (len : Int) := by omega
  have l2 : (2 : Int) < (len : Int) := by omega
  have e1 := and_one_ne a a0 a1
  have e2 := and_two_ne a a0 a1
  have e3 : (slW a b c).gen = a / 4 := rfl
  have e4 : (slW a b c).live = decide (2 ≤ a % 4) := rfl
  have e5 : (slW a b c).two = decide (a % 2 = 1) := rfl
  have e6 : (slW a b c).pos = b := rfl
  have e7 : (slW a b c).len = c := rfl
  rw [e3, e4, e5, e6, e7]
  generalize decide (2 ≤ a % 4) = u at *
  generalize decide (a % 2 = 1) = v at *
  have e8 : IntKind.i64.wrap (a.tdiv 4) = a / 4 := by rw [Int.tdiv_eq_ediv_of_nonneg a0, IntWalk.i64_in _ ⟨by omega, by omega⟩]
  clear e3 e4 e5 e6 e7
  go_enter Try.func44, Try.ntmps44
  go_wp2
  go_region_held3 (fun w' => w'.cell? ⟨g, off + 1, none⟩ = some (.int .i64 b) ∧ w'.cell? ⟨g, off + 2, none⟩ = some (.int .i64 c)) (go_keep) (fail)
  go_wp2
  refine bodyPost_ret (v := .agg #[.int .i64 (a / 4), .bool u, .bool v, .int .i64 b, .int .i64 c]) (by simp [results, Try.results44, go_sem]) rfl ⟨rfl, ((Below.refl _ _).alloc (Nat.le_refl _) _).drew⟩
end Go.Proofs.Ytijfiaggneeibaa
