/- Plain facts on the check sum's register: how it steps, that steps can be undone, what bytes one behind another do. -/
import Derived.Test.YtfglbhdfdpnnfaaDoorMath
import Derived.Laws.BitsAllLaws
namespace Go.Proofs.YtfglbhdfdpnnfaaDoor
set_option maxRecDepth 100000
open Go.RowKit

/-- One halving of the register. -/
def half (r : Nat) : Nat := if r % 2 = 1 then r / 2 ^^^ 3988292384 else r / 2
theorem half_odd {r : Nat} (h : r % 2 = 1) : half r = r / 2 ^^^ 3988292384 := if_pos h
theorem half_even {r : Nat} (h : ¬ r % 2 = 1) : half r = r / 2 := if_neg h
/-- So many halvings. -/
def itr (r : Nat) : Nat → Nat
  | 0 => r
  | k + 1 => half (itr r k)
/-- The register behind bytes. -/
def goN (r : Nat) (zs : List Int) : Nat := zs.foldl (fun r z => itr (r ^^^ z.toNat) 8) r
/-- All 32 bits turned. -/
def inv (r : Nat) : Nat := 4294967295 ^^^ r
theorem inv_eq (r : Nat) : inv r = 4294967295 ^^^ r := rfl
/-- The sum, from a sum on. -/
def sumN (s : Nat) (zs : List Int) : Nat := inv (goN (inv s) zs)

theorem xor_lt {a b : Nat} (ha : a < 4294967296) (hb : b < 4294967296) : a ^^^ b < 4294967296 := Nat.xor_lt_two_pow (n := 32) ha hb
theorem half_lt {r : Nat} (h : r < 4294967296) : half r < 4294967296 := by
  unfold half
  split
  · exact xor_lt (by omega) (by omega)
  · omega
theorem itr_lt {r : Nat} (h : r < 4294967296) (k : Nat) : itr r k < 4294967296 := by
  induction k with
  | zero => exact h
  | succ k ih => exact half_lt ih
theorem byte_lt {z : Int} (h : 0 ≤ z ∧ z ≤ 255) : z.toNat < 4294967296 := by omega
theorem goN_nil (r : Nat) : goN r [] = r := by simp only [goN, List.foldl_nil]
theorem goN_cons (r : Nat) (z : Int) (zs : List Int) : goN r (z :: zs) = goN (itr (r ^^^ z.toNat) 8) zs := by simp only [goN, List.foldl_cons]
theorem goN_append (r : Nat) (a b : List Int) : goN r (a ++ b) = goN (goN r a) b := by simp only [goN, List.foldl_append]
theorem goN_lt {r : Nat} {zs : List Int} (h : r < 4294967296) (hb : Bytes zs) : goN r zs < 4294967296 := by
  induction zs generalizing r with
  | nil => rw [goN_nil]; exact h
  | cons z zs ih =>
    obtain ⟨hz, hr⟩ := hb.cons
    rw [goN_cons]
    exact ih (itr_lt (xor_lt h (byte_lt hz)) 8) hr
theorem goN_take_succ (r : Nat) (zs : List Int) (k : Nat) (h : k < zs.length) : goN r (zs.take (k + 1)) = itr (goN r (zs.take k) ^^^ (zs.getD k 0).toNat) 8 := by
  rw [take_succ' zs k h, goN_append, goN_cons, goN_nil]
  simp only [List.getD]
theorem inv_lt {r : Nat} (h : r < 4294967296) : inv r < 4294967296 := by rw [inv_eq]; exact xor_lt (by omega) h
theorem sumN_lt {s : Nat} {zs : List Int} (h : s < 4294967296) (hb : Bytes zs) : sumN s zs < 4294967296 := inv_lt (goN_lt (inv_lt h) hb)
theorem xor_back (a b : Nat) : a ^^^ (a ^^^ b) = b := by rw [← Nat.xor_assoc, Nat.xor_self, Nat.zero_xor]
theorem inv_inv (r : Nat) : inv (inv r) = r := by rw [inv_eq (inv r), inv_eq r]; exact xor_back 4294967295 r
theorem inv_u32 {r : Nat} (h : r < 4294967296) : bits .xor .u32 4294967295 (r : Int) = ((inv r : Nat) : Int) := by
  have h1 := u32_xor_nat 4294967295 r (by omega) h
  rw [inv_eq]
  exact h1
theorem sumN_append (s : Nat) (a b : List Int) : sumN (sumN s a) b = sumN s (a ++ b) := by
  unfold sumN
  rw [inv_inv, goN_append]
theorem sumN_nil (s : Nat) : sumN s [] = s := by unfold sumN; rw [goN_nil, inv_inv]
theorem inv_max {r : Nat} (h : r < 4294967296) : bits .xor .u32 IntKind.u32.max (r : Int) = ((inv r : Nat) : Int) := by rw [show IntKind.u32.max = 4294967295 by decide]; exact inv_u32 h
theorem i64_xor_nat (a b : Nat) (ha : a < 4294967296) (hb : b < 4294967296) : bits .xor .i64 (a : Int) (b : Int) = ((a ^^^ b : Nat) : Int) := by
  have hx : a ^^^ b < 4294967296 := xor_lt ha hb
  show IntKind.i64.wrap ((BitVec.ofInt 64 (a : Int) ^^^ BitVec.ofInt 64 (b : Int)).toNat : Int) = _
  rw [BitVec.toNat_xor, ofInt_u64 a (by omega), ofInt_u64 b (by omega), IntKind.wrap_i64]
  omega
theorem inv_i64 {r : Nat} (h : r < 4294967296) : bits .xor .i64 4294967295 (r : Int) = ((inv r : Nat) : Int) := by
  have h1 := i64_xor_nat 4294967295 r (by omega) h
  rw [inv_eq]
  exact h1
theorem inv_zero : inv 0 = 4294967295 := by rw [inv_eq, Nat.xor_zero]
theorem inv_inj {a b : Nat} (h : inv a = inv b) : a = b := by rw [← inv_inv a, h, inv_inv]
theorem xor_inj {a b c : Nat} (h : a ^^^ b = a ^^^ c) : b = c := by
  have := congrArg (a ^^^ ·) h
  simpa only [xor_back] using this
theorem xor_inj' {a b c : Nat} (h : b ^^^ a = c ^^^ a) : b = c := by
  rw [Nat.xor_comm b, Nat.xor_comm c] at h
  exact xor_inj h
/-- The highest bit tells whether the register was odd. -/
theorem half_top {r : Nat} (h : r < 4294967296) : (half r).testBit 31 = decide (r % 2 = 1) := by
  have h2 : (r / 2).testBit 31 = false := Nat.testBit_lt_two_pow (by omega)
  by_cases hr : r % 2 = 1
  · rw [half_odd hr, Nat.testBit_xor, h2]
    simp [hr]
    decide
  · rw [half_even hr, h2]
    simp [hr]
theorem half_inj {r t : Nat} (hr : r < 4294967296) (ht : t < 4294967296) (h : half r = half t) : r = t := by
  have h1 := half_top hr
  rw [h, half_top ht] at h1
  have h2 : (t % 2 = 1) ↔ (r % 2 = 1) := decide_eq_decide.1 h1
  by_cases hp : r % 2 = 1
  · rw [half_odd hp, half_odd (h2.2 hp)] at h
    have := xor_inj' h
    have := h2.2 hp
    omega
  · rw [half_even hp, half_even (fun h => hp (h2.1 h))] at h
    have : ¬ t % 2 = 1 := fun h => hp (h2.1 h)
    omega
theorem itr_inj {r t : Nat} (hr : r < 4294967296) (ht : t < 4294967296) (k : Nat) (h : itr r k = itr t k) : r = t := by
  induction k with
  | zero => exact h
  | succ k ih => exact ih (half_inj (itr_lt hr k) (itr_lt ht k) h)
theorem goN_inj {r t : Nat} {zs : List Int} (hr : r < 4294967296) (ht : t < 4294967296) (hb : Bytes zs) (h : goN r zs = goN t zs) : r = t := by
  induction zs generalizing r t with
  | nil => rw [goN_nil, goN_nil] at h; exact h
  | cons z zs ih =>
    obtain ⟨hz, hb'⟩ := hb.cons
    rw [goN_cons, goN_cons] at h
    have := ih (itr_lt (xor_lt hr (byte_lt hz)) 8) (itr_lt (xor_lt ht (byte_lt hz)) 8) hb' h
    exact xor_inj' (itr_inj (xor_lt hr (byte_lt hz)) (xor_lt ht (byte_lt hz)) 8 this)
/-- One other byte: another sum. -/
theorem sumN_turned {zs : List Int} (hb : Bytes zs) (k : Nat) (hk : k < zs.length) (y : Int) (hy : 0 ≤ y ∧ y ≤ 255) (hne : y ≠ zs.getD k 0) (s : Nat) (hs : s < 4294967296) : sumN s (zs.set k y) ≠ sumN s zs := by
  intro h
  have h1 : goN (inv s) (zs.set k y) = goN (inv s) zs := inv_inj h
  have e1 : zs = zs.take k ++ (zs.getD k 0 :: zs.drop (k + 1)) := by simp [List.getD, List.getElem?_eq_getElem hk]
  have e2 : zs.set k y = zs.take k ++ (y :: zs.drop (k + 1)) := by rw [List.set_eq_take_append_cons_drop, if_pos hk]
  have hz : 0 ≤ zs.getD k 0 ∧ zs.getD k 0 ≤ 255 := hb.at k
  rw [e2, goN_append, goN_cons] at h1
  have e3 : goN (inv s) zs = goN (goN (inv s) (zs.take k)) (zs.getD k 0 :: zs.drop (k + 1)) := by rw [← goN_append, ← e1]
  rw [e3, goN_cons] at h1
  have hg : goN (inv s) (zs.take k) < 4294967296 := goN_lt (inv_lt hs) (hb.take k)
  have h2 := goN_inj (itr_lt (xor_lt hg (byte_lt hy)) 8) (itr_lt (xor_lt hg (byte_lt hz)) 8) (hb.drop _) h1
  have h3 := xor_inj (itr_inj (xor_lt hg (byte_lt hy)) (xor_lt hg (byte_lt hz)) 8 h2)
  omega
end Go.Proofs.YtfglbhdfdpnnfaaDoor
