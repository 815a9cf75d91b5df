/- Crc · Cat · Load · Lay · Of · Step · Get · Zero: these texts, one behind another. -/
import Derived.Test.YtgiippbjieecmaaMgA
import Derived.Laws.BitsAllLaws
import Derived.Lib.AppendZeros
import Derived.Test.YtgiippbjieecmaaRows
import Derived.WalkKit
import Derived.WalkLawsBesides
import Derived.Below
/- Plain facts on the check sum's register: how it steps, that steps can be undone, what bytes one behind another do. -/
namespace Go.Proofs.Ytgiippbjieecmaa
open Go.RowKit

/-- One halving of the register. -/
def half (r : Nat) : Nat := if r % 2 = 1 then r / 2 ^^^ 3988292384 else r / 2
theorem half_odd {r : Nat} (h : r % 2 = 1) : half r = r / 2 ^^^ 3988292384 := if_pos h
theorem half_even {r : Nat} (h : ¬ r % 2 = 1) : half r = r / 2 := if_neg h
/-- So many halvings. -/
def itr (r : Nat) : Nat → Nat
  | 0 => r
  | k + 1 => half (itr r k)
/-- The register behind bytes. -/
def goN (r : Nat) (zs : List Int) : Nat := zs.foldl (fun r z => itr (r ^^^ z.toNat) 8) r
/-- All 32 bits turned. -/
def inv (r : Nat) : Nat := 4294967295 ^^^ r
theorem inv_eq (r : Nat) : inv r = 4294967295 ^^^ r := rfl
/-- The sum, from a sum on. -/
def sumN (s : Nat) (zs : List Int) : Nat := inv (goN (inv s) zs)

theorem xor_lt {a b : Nat} (ha : a < 4294967296) (hb : b < 4294967296) : a ^^^ b < 4294967296 := Nat.xor_lt_two_pow (n := 32) ha hb
theorem half_lt {r : Nat} (h : r < 4294967296) : half r < 4294967296 := by
  unfold half
  split
  · exact xor_lt (by omega) (by omega)
  · omega
theorem itr_lt {r : Nat} (h : r < 4294967296) (k : Nat) : itr r k < 4294967296 := by
  induction k with
  | zero => exact h
  | succ k ih => exact half_lt ih
theorem byte_lt {z : Int} (h : 0 ≤ z ∧ z ≤ 255) : z.toNat < 4294967296 := by omega
theorem goN_nil (r : Nat) : goN r [] = r := by simp only [goN, List.foldl_nil]
theorem goN_cons (r : Nat) (z : Int) (zs : List Int) : goN r (z :: zs) = goN (itr (r ^^^ z.toNat) 8) zs := by simp only [goN, List.foldl_cons]
theorem goN_append (r : Nat) (a b : List Int) : goN r (a ++ b) = goN (goN r a) b := by simp only [goN, List.foldl_append]
theorem goN_lt {r : Nat} {zs : List Int} (h : r < 4294967296) (hb : Bytes zs) : goN r zs < 4294967296 := by
  induction zs generalizing r with
  | nil => rw [goN_nil]; exact h
  | cons z zs ih =>
    obtain ⟨hz, hr⟩ := hb.cons
    rw [goN_cons]
    exact ih (itr_lt (xor_lt h (byte_lt hz)) 8) hr
theorem goN_take_succ (r : Nat) (zs : List Int) (k : Nat) (h : k < zs.length) : goN r (zs.take (k + 1)) = itr (goN r (zs.take k) ^^^ (zs.getD k 0).toNat) 8 := by
  rw [take_succ' zs k h, goN_append, goN_cons, goN_nil]
  simp only [List.getD]
theorem inv_lt {r : Nat} (h : r < 4294967296) : inv r < 4294967296 := by rw [inv_eq]; exact xor_lt (by omega) h
theorem sumN_lt {s : Nat} {zs : List Int} (h : s < 4294967296) (hb : Bytes zs) : sumN s zs < 4294967296 := inv_lt (goN_lt (inv_lt h) hb)
theorem xor_back (a b : Nat) : a ^^^ (a ^^^ b) = b := by rw [← Nat.xor_assoc, Nat.xor_self, Nat.zero_xor]
theorem inv_inv (r : Nat) : inv (inv r) = r := by rw [inv_eq (inv r), inv_eq r]; exact xor_back 4294967295 r
theorem inv_u32 {r : Nat} (h : r < 4294967296) : bits .xor .u32 4294967295 (r : Int) = ((inv r : Nat) : Int) := by
  have h1 := u32_xor_nat 4294967295 r (by omega) h
  rw [inv_eq]
  exact h1
theorem sumN_append (s : Nat) (a b : List Int) : sumN (sumN s a) b = sumN s (a ++ b) := by
  unfold sumN
  rw [inv_inv, goN_append]
theorem sumN_nil (s : Nat) : sumN s [] = s := by unfold sumN; rw [goN_nil, inv_inv]
theorem inv_max {r : Nat} (h : r < 4294967296) : bits .xor .u32 IntKind.u32.max (r : Int) = ((inv r : Nat) : Int) := by rw [show IntKind.u32.max = 4294967295 by decide]; exact inv_u32 h
theorem i64_xor_nat (a b : Nat) (ha : a < 4294967296) (hb : b < 4294967296) : bits .xor .i64 (a : Int) (b : Int) = ((a ^^^ b : Nat) : Int) := by
  have hx : a ^^^ b < 4294967296 := xor_lt ha hb
  show IntKind.i64.wrap ((BitVec.ofInt 64 (a : Int) ^^^ BitVec.ofInt 64 (b : Int)).toNat : Int) = _
  rw [BitVec.toNat_xor, ofInt_u64 a (by omega), ofInt_u64 b (by omega), IntKind.wrap_i64]
  omega
theorem inv_i64 {r : Nat} (h : r < 4294967296) : bits .xor .i64 4294967295 (r : Int) = ((inv r : Nat) : Int) := by
  have h1 := i64_xor_nat 4294967295 r (by omega) h
  rw [inv_eq]
  exact h1
theorem inv_zero : inv 0 = 4294967295 := by rw [inv_eq, Nat.xor_zero]
theorem inv_inj {a b : Nat} (h : inv a = inv b) : a = b := by rw [← inv_inv a, h, inv_inv]
theorem xor_inj {a b c : Nat} (h : a ^^^ b = a ^^^ c) : b = c := by
  have := congrArg (a ^^^ ·) h
  simpa only [xor_back] using this
theorem xor_inj' {a b c : Nat} (h : b ^^^ a = c ^^^ a) : b = c := by
  rw [Nat.xor_comm b, Nat.xor_comm c] at h
  exact xor_inj h
/-- The highest bit tells whether the register was odd. -/
theorem half_top {r : Nat} (h : r < 4294967296) : (half r).testBit 31 = decide (r % 2 = 1) := by
  have h2 : (r / 2).testBit 31 = false := Nat.testBit_lt_two_pow (by omega)
  by_cases hr : r % 2 = 1
  · rw [half_odd hr, Nat.testBit_xor, h2]
    simp [hr]
    decide
  · rw [half_even hr, h2]
    simp [hr]
theorem half_inj {r t : Nat} (hr : r < 4294967296) (ht : t < 4294967296) (h : half r = half t) : r = t := by
  have h1 := half_top hr
  rw [h, half_top ht] at h1
  have h2 : (t % 2 = 1) ↔ (r % 2 = 1) := decide_eq_decide.1 h1
  by_cases hp : r % 2 = 1
  · rw [half_odd hp, half_odd (h2.2 hp)] at h
    have := xor_inj' h
    have := h2.2 hp
    omega
  · rw [half_even hp, half_even (fun h => hp (h2.1 h))] at h
    have : ¬ t % 2 = 1 := fun h => hp (h2.1 h)
    omega
theorem itr_inj {r t : Nat} (hr : r < 4294967296) (ht : t < 4294967296) (k : Nat) (h : itr r k = itr t k) : r = t := by
  induction k with
  | zero => exact h
  | succ k ih => exact ih (half_inj (itr_lt hr k) (itr_lt ht k) h)
theorem goN_inj {r t : Nat} {zs : List Int} (hr : r < 4294967296) (ht : t < 4294967296) (hb : Bytes zs) (h : goN r zs = goN t zs) : r = t := by
  induction zs generalizing r t with
  | nil => rw [goN_nil, goN_nil] at h; exact h
  | cons z zs ih =>
    obtain ⟨hz, hb'⟩ := hb.cons
    rw [goN_cons, goN_cons] at h
    have := ih (itr_lt (xor_lt hr (byte_lt hz)) 8) (itr_lt (xor_lt ht (byte_lt hz)) 8) hb' h
    exact xor_inj' (itr_inj (xor_lt hr (byte_lt hz)) (xor_lt ht (byte_lt hz)) 8 this)
/-- One other byte: another sum. -/
theorem sumN_turned {zs : List Int} (hb : Bytes zs) (k : Nat) (hk : k < zs.length) (y : Int) (hy : 0 ≤ y ∧ y ≤ 255) (hne : y ≠ zs.getD k 0) (s : Nat) (hs : s < 4294967296) : sumN s (zs.set k y) ≠ sumN s zs := by
  intro h
  have h1 : goN (inv s) (zs.set k y) = goN (inv s) zs := inv_inj h
  have e1 : zs = zs.take k ++ (zs.getD k 0 :: zs.drop (k + 1)) := by simp [List.getD, List.getElem?_eq_getElem hk]
  have e2 : zs.set k y = zs.take k ++ (y :: zs.drop (k + 1)) := by rw [List.set_eq_take_append_cons_drop, if_pos hk]
  have hz : 0 ≤ zs.getD k 0 ∧ zs.getD k 0 ≤ 255 := hb.at k
  rw [e2, goN_append, goN_cons] at h1
  have e3 : goN (inv s) zs = goN (goN (inv s) (zs.take k)) (zs.getD k 0 :: zs.drop (k + 1)) := by rw [← goN_append, ← e1]
  rw [e3, goN_cons] at h1
  have hg : goN (inv s) (zs.take k) < 4294967296 := goN_lt (inv_lt hs) (hb.take k)
  have h2 := goN_inj (itr_lt (xor_lt hg (byte_lt hy)) 8) (itr_lt (xor_lt hg (byte_lt hz)) 8) (hb.drop _) h1
  have h3 := xor_inj (itr_inj (xor_lt hg (byte_lt hy)) (xor_lt hg (byte_lt hz)) 8 h2)
  omega
end Go.Proofs.Ytgiippbjieecmaa
/- slices.Grow of none, slices.Concat by their contracts. -/
namespace Go.Proofs.Ytgiippbjieecmaa
set_option maxRecDepth 100000
open Go.RowKit

theorem grow_any (n : Nat) (w : World) (hn : n ≤ 140737488355328) :
    Calls Try.prog 80 #[.slice none 0 0, .int .i64 n] w fun e w' => ∃ ao c, e = .returned (.slice ao 0 c) ∧ Own .u8 5 w.heap.size w' ao 0 c [] ∧ Below w.heap.size w w' := by
  obtain ⟨i0, hi, hz0, hz1, hz2⟩ := info_parts Try.info5
  by_cases h0 : 0 < n
  · have hr := Lib.run_append_nil_zeros (P := Try.prog) w 27 3 27 5 i0 (.int .u8 0) .i64 .i64 Try.underlying27 Try.underlying3 hi hz0 n h0 (by omega) (by omega) (by rw [hz2]; omega)
    go_enter Try.func80, Try.ntmps80
    go_wp2_with (at_builtin; refine Lib.wpList_append_run _ rfl _ _ 27 3 rfl _ _ rfl rfl _ _ hr ?_)
    go_ret
    have g1 := grownCap_ge w n 0 5
    have g2 := grownCap_le_maxLen w n 0 5 (by unfold maxLen; omega)
    refine ⟨_, _, rfl, ⟨rfl, rfl, Or.inr ⟨w.heap.size, _, _, rfl, Nat.le_refl _, heap_alloc_new _ _, Nat.zero_le _, g2, ?_, rfl⟩⟩, ((Below.refl _ _).drew).alloc (Nat.le_refl _) _⟩
    rw [Array.size_append, size_zeroCells, size_zeroCells]
    simp
    omega
  · obtain rfl : n = 0 := by omega
    go_enter Try.func80, Try.ntmps80
    go_wp2
    go_ret
    exact ⟨none, 0, rfl, own_nil _ _ _ _, Below.refl _ _⟩

/-- How many bytes the first rows have; which. -/
def tot (n : Nat → Nat) : Nat → Nat
  | 0 => 0
  | k + 1 => tot n k + n k
def cat (zs : Nat → List Int) : Nat → List Int
  | 0 => []
  | k + 1 => cat zs k ++ zs k
theorem tot_mono (n : Nat → Nat) {j k : Nat} (h : j ≤ k) : tot n j ≤ tot n k := by
  induction k with
  | zero => obtain rfl : j = 0 := by omega
            exact Nat.le_refl _
  | succ k ih =>
    by_cases e : j = k + 1
    · subst e; exact Nat.le_refl _
    · have := ih (by omega)
      simp only [tot]
      omega

theorem concat_any (R L c0 : Nat) (ao : Nat → Option Addr) (n c : Nat → Nat) (zs : Nat → List Int) (w : World) (hR : ∀ i, i < L → w.cell? ⟨R, i, none⟩ = some (.slice (ao i) (n i) (c i))) (hRl : R < w.heap.size)
    (hsl : ∀ i, i < L → Sl .u8 w (ao i) (n i) (c i) (zs i)) (hn : tot n L ≤ 140737488355328) (hL : L ≤ 200) :
    Calls Try.prog 65 #[.slice (some ⟨R, 0, none⟩) L c0] w fun e w' => ∃ bo m, e = .returned (.slice bo (tot n L) m) ∧ Own .u8 5 w.heap.size w' bo (tot n L) m (cat zs L) ∧ Below w.heap.size w w' := by
  go_enter Try.func65, Try.ntmps65
  go_wp2
  go_loop [3, 11] (fun q i => ∃ k : Nat, k ≤ L ∧ i = .int .i64 k ∧ q = .int .i64 (tot n k : Nat)) (fun _ i => L - (intOf i).toNat)
  case atStart => exact ⟨0, Nat.zero_le _, rfl, rfl⟩
  case round =>
    obtain ⟨k, hk, rfl, rfl⟩ := hrel
    have hkb := tot_mono n hk
    by_cases hlt : k < L
    · have hcell := hR k hlt
      have HS : Hid (tot n (k + 1) = tot n k + n k) := rfl
      have hkb' := tot_mono n (show k + 1 ≤ L from hlt)
      rw [HS.out] at hkb'
      generalize tot n k = T at *
      generalize n k = N at *
      generalize ao k = A at *
      generalize c k = C at *
      clear hsl hR
      go_wp2
      go_round
      case rel => exact ⟨k + 1, by omega, by go_num, by rw [HS.out]; rfl⟩
      case measure => simp [intOf]; omega
    · obtain rfl : k = L := by omega
      go_wp2_with (go_at_call 80; refine (grow_any (tot n k) _ hn).mono ?_; rintro e w1 ⟨bo, m, rfl, hown, hbel⟩)
      go_loopw [6, 27] (fun q i wr => ∃ (j : Nat) (bo : Option Addr) (m : Nat), j ≤ k ∧ i = .int .i64 j ∧ q = .slice bo (tot n j) m ∧ Own .u8 5 w.heap.size wr bo (tot n j) m (cat zs j) ∧ Below w.heap.size w wr) (fun _ i _ => k - (intOf i).toNat)
      case atStart => exact ⟨0, bo, m, Nat.zero_le _, rfl, rfl, hown, hbel⟩
      case round =>
        clear hown hbel
        obtain ⟨j, bo, m, hj, rfl, rfl, hown, hbel⟩ := hrel
        by_cases hlj : j < k
        · have hcell : wr.cell? ⟨R, j, none⟩ = some (.slice (ao j) (n j) (c j)) := by rw [hbel.cell (p := ⟨R, j, none⟩) hRl]; exact hR j hlj
          have hs := (hsl j hlj).below hbel
          have hkb' := tot_mono n (show j + 1 ≤ k from hlj)
          have HS : Hid (tot n (j + 1) = tot n j + n j) := rfl
          have HC : Hid (cat zs (j + 1) = cat zs j ++ zs j) := rfl
          rw [HS.out] at hkb'
          have hb2 : tot n j + n j ≤ 140737488355328 := by omega
          have hsz := hbel.size
          generalize tot n j = T at *
          generalize n j = N at *
          generalize ao j = A at *
          generalize c j = C at *
          generalize zs j = Z at *
          clear hsl hR
          go_wp2_with (at_builtin; refine append_sl rfl _ _ rfl w.heap.size _ T _ rfl hown.row A N C Z rfl hs hb2 hsz ?_; intro bo' c' w' hown' hgrow _; have hb' := hbel.grown hgrow hsz (fun b hb' => (hown.row.lt b hb').1))
          go_roundw
          case rel => exact ⟨j + 1, bo', c', by omega, by go_num, by rw [HS.out], by rw [HS.out, HC.out]; exact hown', hb'⟩
          case measure => simp [intOf]; omega
        · obtain rfl : j = k := by omega
          go_wp2
          go_ret
          exact ⟨bo, m, rfl, hown, hbel⟩

def f2 {α : Type} (a b : α) : Nat → α
  | 0 => a
  | _ => b
theorem concat_two (R c : Nat) (a0 a1 : Option Addr) (n0 n1 c0 c1 : Nat) (z0 z1 : List Int) (w : World) (h0 : w.cell? ⟨R, 0, none⟩ = some (.slice a0 n0 c0)) (h1 : w.cell? ⟨R, 1, none⟩ = some (.slice a1 n1 c1)) (hR : R < w.heap.size)
    (s0 : Sl .u8 w a0 n0 c0 z0) (s1 : Sl .u8 w a1 n1 c1 z1) (hn : n0 + n1 ≤ 140737488355328) :
    Calls Try.prog 65 #[.slice (some ⟨R, 0, none⟩) 2 c] w fun e w' => ∃ bo m, e = .returned (.slice bo (n0 + n1) m) ∧ Own .u8 5 w.heap.size w' bo (n0 + n1) m (z0 ++ z1) ∧ Below w.heap.size w w' := by
  have e1 : tot (f2 n0 n1) 2 = n0 + n1 := by simp [tot, f2]
  have e2 : cat (f2 z0 z1) 2 = z0 ++ z1 := by simp [cat, f2]
  have h := concat_any R 2 c (f2 a0 a1) (f2 n0 n1) (f2 c0 c1) (f2 z0 z1) w
    (fun i hi => match i, hi with
      | 0, _ => h0
      | 1, _ => h1) hR
    (fun i hi => match i, hi with
      | 0, _ => s0
      | 1, _ => s1) (by rw [e1]; exact hn) (by omega)
  rw [e1, e2] at h
  exact h
end Go.Proofs.Ytgiippbjieecmaa
/- words.fits, holds and load by their contracts. -/
namespace Go.Proofs.Ytgiippbjieecmaa
set_option maxRecDepth 100000
open Go.RowKit

theorem fits_any (n : Int) (w : World) :
    Calls Try.prog 78 #[.int .i64 n] w fun e w' => e = .returned (.bool (fitB n)) ∧ w = w' := by
  by_cases h : 0 ≤ n
  · by_cases h2 : n ≤ 4611686018427387903
    · go_enter Try.func78, Try.ntmps78
      go_wp2
      go_ret
      exact ⟨ret_bool (fitB_t h h2).symm, rfl⟩
    · go_enter Try.func78, Try.ntmps78
      go_wp2
      go_ret
      exact ⟨ret_bool (fitB_f (by omega)).symm, rfl⟩
  · go_enter Try.func78, Try.ntmps78
    go_wp2
    go_ret
    exact ⟨ret_bool (fitB_f (by omega)).symm, rfl⟩

theorem holds_any (ao : Option Addr) (len cap : Nat) (n : Int) (w : World) (hl : len ≤ 9223372036854775807) :
    Calls Try.prog 69 #[.slice ao len cap, .int .i64 n] w fun e w' => e = .returned (.bool (hasB len n)) ∧ w = w' := by
  by_cases h : 0 ≤ n
  · by_cases h2 : n < (len : Int) / 8
    · go_enter Try.func69, Try.ntmps69
      go_wp2
      go_ret
      exact ⟨ret_bool (hasB_t h h2).symm, rfl⟩
    · go_enter Try.func69, Try.ntmps69
      go_wp2
      go_ret
      exact ⟨ret_bool (hasB_f (by omega)).symm, rfl⟩
  · go_enter Try.func69, Try.ntmps69
    go_wp2
    go_ret
    exact ⟨ret_bool (hasB_f (by omega)).symm, rfl⟩

theorem load_any (b off len cap : Nat) (zs : List Int) (w : World) (h8 : 8 ≤ len) (hz : zs.length = len) (hb : Bytes zs)
    (hc : ∀ i, i < len → w.cell? ⟨b, off + i, none⟩ = some (.int .u8 (zs.getD i 0))) :
    Calls Try.prog 70 #[.slice (some ⟨b, off, none⟩) len cap] w fun e w' =>
      e = .returned (.tuple #[.int .i64 (wN (zs.take 8)), .bool (wB (zs.take 8))]) ∧ w = w' := by
  go_enter Try.func70, Try.ntmps70
  go_wp2
  go_loop [4, 6] (fun n i => ∃ k : Nat, k ≤ 8 ∧ i = .int .i64 k ∧ n = .int .u64 (le (zs.take k))) (fun _ i => 8 - (intOf i).toNat)
  case atStart => exact ⟨0, Nat.zero_le _, rfl, rfl⟩
  case round =>
    obtain ⟨k, hk, rfl, rfl⟩ := hrel
    by_cases hlt : k < 8
    · have hcell := hc k (by omega)
      have hbk := hb.at k
      have HS : Hid (le (zs.take (k + 1)) = le (zs.take k) + 256 ^ k * zs[k]?.getD 0) := le_take_succ zs k (by omega)
      have HB : Hid (0 ≤ le (zs.take k) ∧ le (zs.take k) < 256 ^ k) := le_take_bound hb k (by omega)
      go_wp2
      go_round
      case rel => exact ⟨k + 1, by omega, by go_num, by rw [HS.out, or_place k hlt _ _ HB.out.1 HB.out.2 hbk.1 hbk.2]⟩
      case measure => simp [intOf]; omega
    · obtain rfl : k = 8 := by omega
      have hbd := (le_take_bound hb 8 (by omega)).1
      by_cases hmax : le (zs.take 8) ≤ 4611686018427387903
      · go_wp2
        go_ret2
        exact ⟨ret_ib (wN_t hmax).symm (wB_t hmax).symm, rfl⟩
      · go_wp2
        go_ret2
        exact ⟨ret_ib (wN_f (by omega)).symm (wB_f (by omega)).symm, rfl⟩

end Go.Proofs.Ytgiippbjieecmaa
/- words.lay by its contract: the eight bytes of a number are laid over a row of the call's own. -/
namespace Go.Proofs.Ytgiippbjieecmaa
set_option maxRecDepth 100000
open Go.RowKit

theorem lay_any (B g off n cap m c : Nat) (zs : List Int) (x : Int) (w : World) (_hx0 : 0 ≤ x) (_hx : x ≤ 4611686018427387903) (h8 : 8 ≤ m) (hoff : off + 8 ≤ n) (hl : zs.length = n)
    (hown : w.ownsRow B 5 1 (.slice (some ⟨g, 0, none⟩) n cap) n (zs.map (Value.int .u8))) :
    Calls Try.prog 79 #[.slice (some ⟨g, off, none⟩) m c, .int .i64 x] w fun e w' =>
      e = .returned (.tuple #[]) ∧ w'.ownsRow B 5 1 (.slice (some ⟨g, 0, none⟩) n cap) n ((putk zs off x 8).map (Value.int .u8)) ∧ w.grownBy w' (some g) ∧ w'.heap.size = w.heap.size := by
  go_enter Try.func79, Try.ntmps79
  go_wp2
  go_loopw [5] (fun i wr => ∃ k : Nat, k ≤ 8 ∧ i = .int .i64 k ∧ wr.ownsRow B 5 1 (.slice (some ⟨g, 0, none⟩) n cap) n ((putk zs off x k).map (Value.int .u8)) ∧ w.grownBy wr (some g) ∧ wr.heap.size = w.heap.size) (fun i _ => 8 - (intOf i).toNat)
  case atStart => exact ⟨0, Nat.zero_le _, rfl, by rw [putk_zero]; exact hown, World.grownBy.refl _ _, rfl⟩
  case round =>
    obtain ⟨k, hk, rfl, ho, hg, hs⟩ := hrel
    by_cases hlt : k < 8
    · have hpl := putk_length zs off x k (by omega)
      have hcell : ∃ v, wr.cell? ⟨g, off + k, none⟩ = some v := ⟨_, by rw [ho.cellAt (off + k) (by omega), List.getElem?_eq_getElem (by simp; omega)]⟩
      obtain ⟨v, hcell⟩ := hcell
      have hfr := ho.frozenAt (off + k)
      have HS : Hid (wr.heap.size = w.heap.size) := hs
      have HO : Hid (wr.ownsRow B 5 1 (.slice (some ⟨g, 0, none⟩) n cap) n ((putk zs off x k).map (Value.int .u8))) := ho
      clear ho hs hpl
      go_wp2
      go_roundw
      case rel =>
        have hst := lay_step hl (by omega) HO.out
        exact ⟨k + 1, by omega, by go_num, hst.1, grown_trans hg hst.2, (by simp [World.setCell]; exact HS.out)⟩
      case measure => simp [intOf]; omega
    · obtain rfl : k = 8 := by omega
      go_wp2
      go_end0
      exact ⟨rfl, ho, hg, hs⟩
end Go.Proofs.Ytgiippbjieecmaa
/- words.Of by its contract. -/
namespace Go.Proofs.Ytgiippbjieecmaa
set_option maxRecDepth 100000
open Go.RowKit

theorem of_any (ao : Option Addr) (n cap : Nat) (ls : List Int) (w : World) (h : Sl .i64 w ao n cap ls) (hn : n * 8 ≤ 140737488355328) :
    Calls Try.prog 64 #[.slice ao n cap] w fun e w' => ∃ ao' m cap', e = .returned (.tuple #[.slice ao' m cap', .int .i64 (ofE ls)]) ∧
      Own .u8 5 w.heap.size w' ao' m cap' (ofR ls) ∧ Below w.heap.size w w' := by
  have hlen := h.len
  obtain ⟨i0, hi, hz0, hz1, hz2⟩ := info_parts Try.info5
  go_enter Try.func64, Try.ntmps64
  go_wp2_with (at_make; refine wpList_make_full _ rfl _ _ 27 rfl w.heap.size 5 i0 (.int .u8 0) 1 Try.underlying27 hi hz0 hz1 .i64 .i64 _ _ (n * 8) rfl rfl (by simp) (by simp) ?b2 ?b3 ?b4 ?_)
  case b2 => rw [hz2]; omega
  case b3 => unfold maxLen; omega
  case b4 => exact Nat.le_refl _
  intro w1 hown hgrow
  have hmade : (madeCells #[Value.int .u8 0] (n * 8)).toList = (ofk ls 0).map (Value.int .u8) := by rw [toList_madeCells_one, ofk_zero, hlen]; simp
  have hbel : Below w.heap.size w w1 := (Below.refl _ _).grown hgrow (Nat.le_refl _) (by intro k hk; cases hk)
  rw [hmade] at hown
  clear hmade hgrow hi hz0 hz1 hz2
  go_wp2
  go_loopw [13] (fun i wr => ∃ k : Nat, k ≤ n ∧ i = .int .i64 k ∧ okL (ls.take k) = true ∧ wr.ownsRow w.heap.size 5 1 (.slice (some ⟨w.heap.size, 0, none⟩) (n * 8) (n * 8)) (n * 8) ((ofk ls k).map (Value.int .u8)) ∧ Below w.heap.size w wr) (fun i _ => n - (intOf i).toNat)
  case atStart => exact ⟨0, Nat.zero_le _, rfl, rfl, hown, hbel⟩
  case round =>
    obtain ⟨k, hk, rfl, hok, ho, hb⟩ := hrel
    clear hown hbel
    have HK : Hid (okL (ls.take k) = true) := hok
    clear hok
    by_cases hlt : k < n
    · obtain ⟨b, off, rfl, hbl, hc⟩ := h.here (by omega)
      obtain ⟨x, hx⟩ : ∃ x, ls.getD k 0 = x := ⟨_, rfl⟩
      have hcell : wr.cell? ⟨b, off + k, none⟩ = some (.int .i64 x) := by rw [hb.cell (p := ⟨b, off + k, none⟩) hbl, hc k hlt, hx]
      have HS : Hid (okL (ls.take (k + 1)) = (okL (ls.take k) && fitB x)) := by rw [← hx]; exact okL_succ ls k (by omega)
      have HF : Hid (fitB x = false → okL ls = false) := by rw [← hx]; exact okL_false ls k (by omega)
      have HP : Hid (putk (ofk ls k) (k * 8) x 8 = ofk ls (k + 1)) := ofk_put ls k (by omega) x hx
      have hofl : (ofk ls k).length = n * 8 := by rw [ofk_length ls k (by omega), hlen]
      clear hc h hx
      by_cases hf : fitB x = true
      · obtain ⟨hx0, hx1⟩ := fitB_and hf
        go_wp2_with (first
          | (go_at_call 78; refine (fits_any _ _).mono ?_; rintro e w' ⟨rfl, rfl⟩)
          | (go_at_call 79; refine (lay_any w.heap.size _ (k * 8) (n * 8) (n * 8) _ _ (ofk ls k) x _ hx0 hx1 (by omega) (by omega) hofl ho).mono ?_; rintro e w2 ⟨rfl, ho2, hg2, hs2⟩))
        go_roundw
        case rel =>
          rw [HP.out] at ho2
          exact ⟨k + 1, by omega, by go_num, by rw [HS.out, HK.out, hf]; rfl, ho2, hb.grown hg2 hb.size (by intro b hb'; obtain rfl := Option.some.inj hb'; exact Nat.le_refl _)⟩
        case measure => simp [intOf]; omega
      · have hf' : fitB x = false := by simpa using hf
        go_wp2_with (go_at_call 78; refine (fits_any _ _).mono ?_; rintro e w' ⟨rfl, rfl⟩)
        go_ret2
        refine ⟨none, 0, 0, by rw [ofE_f (HF.out hf')]; rfl, by rw [ofR_f (HF.out hf')]; exact own_nil _ _ _ _, hb⟩
    · obtain rfl : k = n := by omega
      have hall : okL ls = true := by have := HK.out; rwa [List.take_of_length_le (by omega)] at this
      have HA : Hid (okL ls = true) := hall
      clear hall
      go_wp2
      go_ret2
      refine ⟨_, _, _, by rw [ofE_t HA.out]; rfl, ⟨by rw [ofR_t HA.out, ofL_length, hlen], ?_⟩, hb⟩
      rw [ofR_t HA.out, ← ofk_full, hlen]
      exact ho
end Go.Proofs.Ytgiippbjieecmaa
/- crc.step, run, Sum and Add by their contracts. -/
namespace Go.Proofs.Ytgiippbjieecmaa
set_option maxRecDepth 100000
open Go.RowKit

theorem step_any (r : Nat) (w : World) (hr : r < 4294967296) :
    Calls Try.prog 92 #[.int .u32 r] w fun e w' => e = .returned (.int .u32 (itr r 8 : Nat)) ∧ w = w' := by
  go_enter Try.func92, Try.ntmps92
  go_wp2
  go_loop [0, 4] (fun n i => ∃ k : Nat, k ≤ 8 ∧ i = .int .i64 k ∧ n = .int .u32 (itr r k : Nat)) (fun _ i => 8 - (intOf i).toNat)
  case atStart => exact ⟨0, Nat.zero_le _, rfl, rfl⟩
  case round =>
    obtain ⟨k, hk, rfl, rfl⟩ := hrel
    by_cases hlt : k < 8
    · have HS : Hid (itr r (k + 1) = half (itr r k)) := rfl
      have hx := itr_lt hr k
      generalize itr r k = x at *
      have ha : bits .and .u32 (x : Int) 1 = ((x % 2 : Nat) : Int) := by
        have := u32_and_nat x 1 hx (by omega)
        rw [nat_mask1] at this
        exact this
      by_cases hp : x % 2 = 1
      · have hxr : bits .xor .u32 ((x / 2 : Nat) : Int) 3988292384 = ((half x : Nat) : Int) := by
          rw [half_odd hp]
          exact u32_xor_nat (x / 2) 3988292384 (by omega) (by omega)
        rw [hp] at ha
        go_wp2
        go_round
        case rel => exact ⟨k + 1, by omega, by go_num, by rw [HS.out, ← hxr]; rfl⟩
        case measure => simp [intOf]; omega
      · have hp0 : x % 2 = 0 := by omega
        rw [hp0] at ha
        go_wp2
        go_round
        case rel => exact ⟨k + 1, by omega, by go_num, by rw [HS.out, half_even hp]; rfl⟩
        case measure => simp [intOf]; omega
    · obtain rfl : k = 8 := by omega
      go_wp2
      go_ret
      exact ⟨rfl, rfl⟩

theorem run_any (s : Nat) (ao : Option Addr) (n cap : Nat) (zs : List Int) (w : World) (hs : s < 4294967296) (hsl : Sl .u8 w ao n cap zs) (hb : Bytes zs) (hn : n ≤ 140737488355328) :
    Calls Try.prog 81 #[.int .u32 s, .slice ao n cap] w fun e w' => e = .returned (.int .i64 (sumN s zs : Nat)) ∧ w = w' := by
  have hlen := hsl.len
  have hi0 := inv_max hs
  go_enter Try.func81, Try.ntmps81
  go_wp2
  go_loop [5, 11] (fun q i => ∃ k : Nat, k ≤ n ∧ i = .int .i64 k ∧ q = .int .u32 (goN (inv s) (zs.take k) : Nat)) (fun _ i => n - (intOf i).toNat)
  case atStart => exact ⟨0, Nat.zero_le _, rfl, by rw [List.take_zero, goN_nil]⟩
  case round =>
    obtain ⟨k, hk, rfl, rfl⟩ := hrel
    clear hi0
    have hg := goN_lt (inv_lt hs) (hb.take k)
    by_cases hlt : k < n
    · obtain ⟨b, off, rfl, -, hc⟩ := hsl.here (by omega)
      obtain ⟨z, hz⟩ : ∃ z, zs.getD k 0 = z := ⟨_, rfl⟩
      have hcell := hc k hlt
      have hzb : 0 ≤ zs.getD k 0 ∧ zs.getD k 0 ≤ 255 := hb.at k
      have HS : Hid (goN (inv s) (zs.take (k + 1)) = itr (goN (inv s) (zs.take k) ^^^ z.toNat) 8) := by rw [← hz]; exact goN_take_succ _ zs k (by omega)
      rw [hz] at hcell hzb
      generalize goN (inv s) (zs.take k) = x at *
      obtain ⟨y, rfl⟩ := Int.eq_ofNat_of_zero_le hzb.1
      have hx : bits .xor .u32 (x : Int) (y : Int) = ((x ^^^ y : Nat) : Int) := u32_xor_nat x y hg (by omega)
      have HT := HS.out
      rw [Int.toNat_natCast] at HT
      have HU : Hid (goN (inv s) (zs.take (k + 1)) = itr (x ^^^ y) 8) := HT
      have hv : x ^^^ y < 4294967296 := xor_lt hg (by omega)
      clear HT HS hz hc hsl hb
      generalize x ^^^ y = v at *
      go_wp2_with (go_at_call 92; with_reducible refine (step_any v _ hv).mono ?_; rintro e w' ⟨rfl, rfl⟩)
      go_round
      case rel => exact ⟨k + 1, by omega, by go_num, by rw [HU.out]⟩
      case measure => simp [intOf]; omega
    · obtain rfl : k = n := by omega
      have e : zs.take k = zs := List.take_of_length_le (by omega)
      rw [e] at hg ⊢
      have hi1 := inv_max hg
      have HF : Hid (inv (goN (inv s) zs) = sumN s zs) := rfl
      have hil := inv_lt hg
      generalize goN (inv s) zs = x at *
      generalize inv x = y at *
      go_wp2
      go_ret
      exact ⟨by rw [HF.out]; rfl, rfl⟩

theorem sum_any (ao : Option Addr) (n cap : Nat) (zs : List Int) (w : World) (hsl : Sl .u8 w ao n cap zs) (hb : Bytes zs) (hn : n ≤ 140737488355328) :
    Calls Try.prog 66 #[.slice ao n cap] w fun e w' => e = .returned (.int .i64 (sumN 0 zs : Nat)) ∧ w = w' := by
  go_enter Try.func66, Try.ntmps66
  go_wp2_with (go_at_call 81; refine (run_any 0 _ _ _ zs _ (by omega) hsl hb hn).mono ?_; rintro e w' ⟨rfl, rfl⟩)
  go_ret
  exact ⟨rfl, rfl⟩

end Go.Proofs.Ytgiippbjieecmaa
/- words.Get by its contract. -/
namespace Go.Proofs.Ytgiippbjieecmaa
set_option maxRecDepth 100000
open Go.RowKit

theorem get_any (ao : Option Addr) (n cap : Nat) (zs : List Int) (x : Int) (w : World) (h : Sl .u8 w ao n cap zs) (hb : Bytes zs) (hn : n ≤ 140737488355328) :
    Calls Try.prog 43 #[.slice ao n cap, .int .i64 x] w fun e w' => e = .returned (.tuple #[.int .i64 (getN zs x), .bool (getB zs x)]) ∧ w = w' := by
  have hlen := h.len
  by_cases hx : 0 ≤ x ∧ x < (n : Int) / 8
  · obtain ⟨h0, h1⟩ := hx
    obtain ⟨k, rfl⟩ := Int.eq_ofNat_of_zero_le h0
    obtain ⟨b, off, rfl, -, hc⟩ := h.here (by omega)
    have hroom := h.room
    have hH : hasB n k = true := hasB_t h0 h1
    have hcd : ∀ i, i < n - k * 8 → w.cell? ⟨b, off + k * 8 + i, none⟩ = some (.int .u8 ((zs.drop (8 * k)).getD i 0)) := fun i hi => by
      rw [Nat.add_assoc, hc (k * 8 + i) (by omega), getD_drop, Nat.mul_comm]
    go_enter Try.func43, Try.ntmps43
    go_wp2_with (first
      | (go_at_call 69; refine (holds_any _ _ _ _ _ (by omega)).mono ?_; rintro e w' ⟨rfl, rfl⟩)
      | (go_at_call 70; refine (load_any _ _ _ _ (zs.drop (8 * k)) _ (by omega) (by simp; omega) (hb.drop _) hcd).mono ?_; rintro e w' ⟨rfl, rfl⟩))
    go_ret2
    exact ⟨ret_ib (by simp [getN, hlen, hH, cut]) (by simp [getB, hlen, hH, cut]), rfl⟩
  · have hH : hasB n x = false := hasB_f hx
    go_enter Try.func43, Try.ntmps43
    go_wp2_with (go_at_call 69; refine (holds_any _ _ _ _ _ (by omega)).mono ?_; rintro e w' ⟨rfl, rfl⟩)
    go_ret2
    exact ⟨ret_ib (by simp [getN, hlen, hH]) (by simp [getB, hlen, hH]), rfl⟩
end Go.Proofs.Ytgiippbjieecmaa
/- words.Zero by its contract. -/
namespace Go.Proofs.Ytgiippbjieecmaa
set_option maxRecDepth 100000
open Go.RowKit

theorem zero_any (ao : Option Addr) (n cap : Nat) (zs : List Int) (w : World) (h : Sl .u8 w ao n cap zs) (hn : n ≤ 140737488355328) :
    Calls Try.prog 42 #[.slice ao n cap] w fun e w' => e = .returned (.bool (allZ zs)) ∧ w = w' := by
  have hlen := h.len
  by_cases h0 : n = 0
  · subst h0
    have hz : zs = [] := List.eq_nil_of_length_eq_zero hlen
    subst hz
    go_enter Try.func42, Try.ntmps42
    go_wp2
    refine wp_loop_rounds 1 ?_
    rw [rounds_succ]
    go_wp2
    go_ret
    exact ⟨ret_bool rfl, rfl⟩
  · obtain ⟨b, off, rfl, -, hc⟩ := h.here (by omega)
    go_enter Try.func42, Try.ntmps42
    go_wp2
    go_loop [6] (fun i => ∃ k : Nat, k ≤ n ∧ i = .int .i64 k ∧ allZ (zs.take k) = true) (fun i => n - (intOf i).toNat)
    case atStart => exact ⟨0, Nat.zero_le _, rfl, rfl⟩
    case round =>
      obtain ⟨k, hk, rfl, hz⟩ := hrel
      have HZ : Hid (allZ (zs.take k) = true) := hz
      clear hz
      by_cases hlt : k < n
      · obtain ⟨z, hzv⟩ : ∃ z, zs.getD k 0 = z := ⟨_, rfl⟩
        have hcell := hc k hlt
        rw [hzv] at hcell
        have HS : Hid (allZ (zs.take (k + 1)) = (allZ (zs.take k) && (z == 0))) := by rw [← hzv]; exact allZ_succ zs k (by omega)
        have HF : Hid (z ≠ 0 → allZ zs = false) := by rw [← hzv]; exact fun hv => allZ_false zs k (by omega) (by simpa using hv)
        clear hzv hc h
        by_cases hv : z = 0
        · subst hv
          go_wp2
          go_round
          case rel => exact ⟨k + 1, by omega, by go_num, by rw [HS.out, HZ.out]; rfl⟩
          case measure => simp [intOf]; omega
        · have hv' : (z != 0) = true := by simpa using hv
          go_wp2
          go_ret
          exact ⟨ret_bool (HF.out hv).symm, rfl⟩
      · obtain rfl : k = n := by omega
        go_wp2
        go_ret
        exact ⟨ret_bool (by have := HZ.out; rw [List.take_of_length_le (by omega)] at this; exact this.symm), rfl⟩
end Go.Proofs.Ytgiippbjieecmaa
